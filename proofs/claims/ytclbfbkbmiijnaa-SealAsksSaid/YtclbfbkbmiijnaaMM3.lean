/- Texts joined: what they are for stands ahead of each. -/
import Derived.Test.YtclbfbkbmiijnaaMM2
import Derived.Lib.SlBytesConst
import Derived.ProofKit
import Derived.OpenShut
import Derived.ChangeOld
import Derived.Deep.Matrix
set_option linter.unusedSimpArgs false
set_option linter.unusedVariables false

/- The program's AES: the box. -/
namespace Go.Proofs.Ytclbfbkbmiijnaa
open Go.RowKit Go.Deep
set_option linter.unusedSimpArgs false
set_option linter.unusedVariables false

theorem wpList_index_c {P : Program} {ops : Array Oper} {rest : List Oper} {o : Oper} {a : Act} {w : World} {Q : Exit → Act → World → Prop} (hgd : o.guard = none) (ty elem : TypeId) (x y : Operand) (ho : o.op = .index ty x y) (n : Nat) (hu : P.underlying ty = some (.array n elem)) (d : TypeDesc) (hd : P.underlying elem = some d)
    (hagg : (match d with | .struct _ | .array _ _ => true | _ => false) = false) (hi : (P.info? elem).map (fun i => i.size) = some 1) {k kk : IntKind} {f : Nat → Nat} {j z : Nat} (hx : a.eval x = .agg (arrOf n (cF kk f))) (hy : a.eval y = .int k (j : Int)) (hj : j < n) (hz : f j = z)
    (h : wpList P ops Q rest (a.put o.dst (.int kk (z : Int))) w) : wpList P ops Q (o :: rest) a w := by
  subst hz
  exact wpList_index_arr hgd ty elem x y ho n hu d hd hagg hi hx hy hj h
set_option maxHeartbeats 4000000 in
set_option maxRecDepth 20000 in
theorem dbl_any (x : Nat) (w : World) (hx : x < 256) : Calls Try.prog 75 #[.int .u8 (x : Int)] w fun e w' => e = .returned (.int .u8 ((xtN x : Nat) : Int)) ∧ w' = w := by
  obtain ⟨s, hs⟩ := nat_var (x * 2 % 256)
  obtain ⟨t, ht⟩ := nat_var (x / 128)
  obtain ⟨u, hu⟩ := nat_var (t * 27 % 256)
  obtain ⟨r, hr⟩ := nat_var (xtN x)
  rw [← hr]
  have e1 : IntKind.u8.wrap ((x : Int) * 2) = (s : Int) := by rw [IntKind.wrap_u8]; omega
  have e2 : (x : Int) / 128 = (t : Int) := by omega
  have e3 : IntKind.u8.wrap ((t : Int) * 27) = (u : Int) := by rw [IntKind.wrap_u8]; omega
  have e4 : bits .xor .u8 (s : Int) (u : Int) = (r : Int) := by
    rw [bits_xorN s u (by omega) (by omega), hr, ← dbl_one x hx, hs, hu, ht]
  clear hs ht hu hr hx
  go_enter Try.func75, Try.ntmps75
  go_wp2
  go_ret
  exact ⟨rfl, rfl⟩
set_option maxHeartbeats 4000000 in
set_option maxRecDepth 20000 in
theorem rot8_1 (v : Nat) (w : World) (hv : v < 256) : Calls Try.prog 84 #[.int .u8 (v : Int), .int .i64 1] w fun e w' => e = .returned (.int .u8 ((rb v 1 : Nat) : Int)) ∧ w' = w := by
  obtain ⟨s, hs⟩ := nat_var (v * 2 ^ 1 % 256)
  obtain ⟨t, ht⟩ := nat_var (v / 2 ^ (8 - 1))
  obtain ⟨o, ho⟩ := nat_var (rb v 1)
  have e1 := bits_orN s t (by omega) (by rw [ht]; exact Nat.lt_of_le_of_lt (Nat.div_le_self _ _) hv)
  rw [show s ||| t = o by rw [ho, hs, ht]; rfl] at e1
  rw [← ho]
  simp only [Nat.reducePow, Nat.reduceSub] at hs ht
  have s1 : IntKind.u8.wrap ((v : Int) * 2) = (s : Int) := by rw [IntKind.wrap_u8]; omega
  have s2 : (v : Int) / 128 = (t : Int) := by omega
  have c1 : bits .and .u64 1 7 = 1 := by decide
  clear hs ht ho hv
  go_enter Try.func84, Try.ntmps84
  go_wp2
  go_ret
  exact ⟨rfl, rfl⟩
set_option maxHeartbeats 4000000 in
set_option maxRecDepth 20000 in
theorem rot8_2 (v : Nat) (w : World) (hv : v < 256) : Calls Try.prog 84 #[.int .u8 (v : Int), .int .i64 2] w fun e w' => e = .returned (.int .u8 ((rb v 2 : Nat) : Int)) ∧ w' = w := by
  obtain ⟨s, hs⟩ := nat_var (v * 2 ^ 2 % 256)
  obtain ⟨t, ht⟩ := nat_var (v / 2 ^ (8 - 2))
  obtain ⟨o, ho⟩ := nat_var (rb v 2)
  have e1 := bits_orN s t (by omega) (by rw [ht]; exact Nat.lt_of_le_of_lt (Nat.div_le_self _ _) hv)
  rw [show s ||| t = o by rw [ho, hs, ht]; rfl] at e1
  rw [← ho]
  simp only [Nat.reducePow, Nat.reduceSub] at hs ht
  have s1 : IntKind.u8.wrap ((v : Int) * 4) = (s : Int) := by rw [IntKind.wrap_u8]; omega
  have s2 : (v : Int) / 64 = (t : Int) := by omega
  have c1 : bits .and .u64 2 7 = 2 := by decide
  clear hs ht ho hv
  go_enter Try.func84, Try.ntmps84
  go_wp2
  go_ret
  exact ⟨rfl, rfl⟩
set_option maxHeartbeats 4000000 in
set_option maxRecDepth 20000 in
theorem rot8_3 (v : Nat) (w : World) (hv : v < 256) : Calls Try.prog 84 #[.int .u8 (v : Int), .int .i64 3] w fun e w' => e = .returned (.int .u8 ((rb v 3 : Nat) : Int)) ∧ w' = w := by
  obtain ⟨s, hs⟩ := nat_var (v * 2 ^ 3 % 256)
  obtain ⟨t, ht⟩ := nat_var (v / 2 ^ (8 - 3))
  obtain ⟨o, ho⟩ := nat_var (rb v 3)
  have e1 := bits_orN s t (by omega) (by rw [ht]; exact Nat.lt_of_le_of_lt (Nat.div_le_self _ _) hv)
  rw [show s ||| t = o by rw [ho, hs, ht]; rfl] at e1
  rw [← ho]
  simp only [Nat.reducePow, Nat.reduceSub] at hs ht
  have s1 : IntKind.u8.wrap ((v : Int) * 8) = (s : Int) := by rw [IntKind.wrap_u8]; omega
  have s2 : (v : Int) / 32 = (t : Int) := by omega
  have c1 : bits .and .u64 3 7 = 3 := by decide
  clear hs ht ho hv
  go_enter Try.func84, Try.ntmps84
  go_wp2
  go_ret
  exact ⟨rfl, rfl⟩
set_option maxHeartbeats 4000000 in
set_option maxRecDepth 20000 in
theorem rot8_4 (v : Nat) (w : World) (hv : v < 256) : Calls Try.prog 84 #[.int .u8 (v : Int), .int .i64 4] w fun e w' => e = .returned (.int .u8 ((rb v 4 : Nat) : Int)) ∧ w' = w := by
  obtain ⟨s, hs⟩ := nat_var (v * 2 ^ 4 % 256)
  obtain ⟨t, ht⟩ := nat_var (v / 2 ^ (8 - 4))
  obtain ⟨o, ho⟩ := nat_var (rb v 4)
  have e1 := bits_orN s t (by omega) (by rw [ht]; exact Nat.lt_of_le_of_lt (Nat.div_le_self _ _) hv)
  rw [show s ||| t = o by rw [ho, hs, ht]; rfl] at e1
  rw [← ho]
  simp only [Nat.reducePow, Nat.reduceSub] at hs ht
  have s1 : IntKind.u8.wrap ((v : Int) * 16) = (s : Int) := by rw [IntKind.wrap_u8]; omega
  have s2 : (v : Int) / 16 = (t : Int) := by omega
  have c1 : bits .and .u64 4 7 = 4 := by decide
  clear hs ht ho hv
  go_enter Try.func84, Try.ntmps84
  go_wp2
  go_ret
  exact ⟨rfl, rfl⟩
theorem rot8_any (v k : Nat) (w : World) (hv : v < 256) (h0 : 0 < k) (h1 : k < 5) : Calls Try.prog 84 #[.int .u8 (v : Int), .int .i64 (k : Int)] w fun e w' => e = .returned (.int .u8 ((rb v k : Nat) : Int)) ∧ w' = w := by
  rcases (show k = 1 ∨ k = 2 ∨ k = 3 ∨ k = 4 by omega) with rfl | rfl | rfl | rfl
  · exact rot8_1 v w hv
  · exact rot8_2 v w hv
  · exact rot8_3 v w hv
  · exact rot8_4 v w hv
theorem rb_zero (v : Nat) (hv : v < 256) : rb v 0 = v := by
  have g : ∀ v : Fin 256, rb v.val 0 = v.val := by decide +kernel
  exact g ⟨v, hv⟩
set_option maxHeartbeats 4000000 in
set_option maxRecDepth 20000 in
theorem spread_any (x : Nat) (w : World) (hx : x < 256) : Calls Try.prog 81 #[.int .u8 (x : Int)] w fun e w' => e = .returned (.int .u8 ((xr x 5 : Nat) : Int)) ∧ w' = w := by
  obtain ⟨RES, hRES⟩ : ∃ R, R = xr x 5 := ⟨_, rfl⟩
  rw [← hRES]
  have HRES := Lib.hid hRES
  have HX := Lib.hid hx
  obtain ⟨y, hy⟩ := nat_var (xr x 1)
  have e0 : bits .xor .u8 (x : Int) 99 = (y : Int) := by
    refine (bits_xorN x 99 hx (by decide)).trans ?_
    rw [hy]
    show _ = ((99 ^^^ rb x 0 : Nat) : Int)
    rw [rb_zero x hx, Nat.xor_comm]
  have HY := Lib.hid hy
  clear hRES hx hy
  go_enter Try.func81, Try.ntmps81
  go_wp2
  go_loopw [3, 4] (fun ov kv wr => ∃ k : Nat, 0 < k ∧ k ≤ 5 ∧ kv = .int .i64 (k : Int) ∧ ov = .int .u8 ((xr x k : Nat) : Int) ∧ wr = w) (fun _ kv _ => 5 - (intOf kv).toNat)
  case atStart => exact ⟨1, by decide, by decide, rfl, by rw [HY.out], rfl⟩
  case round =>
    obtain ⟨k, hk0, hk, rfl, rfl, rfl⟩ := hrel
    by_cases hlt : k < 5
    · have hkI : (k : Int) ≤ 4 := by omega
      have HK0 := Lib.hid hk0
      have HK := Lib.hid hlt
      obtain ⟨r, hr⟩ := nat_var (xr x k)
      obtain ⟨o, ho⟩ := nat_var (rb x k)
      obtain ⟨r2, hr2⟩ := nat_var (xr x (k + 1))
      have e2 : bits .xor .u8 (r : Int) (o : Int) = (r2 : Int) := by
        rw [bits_xorN r o (by rw [hr]; exact xr_lt _ HX.out k) (by rw [ho]; exact rb_lt _ _ HX.out), hr2, hr, ho]
        rfl
      have HO := Lib.hid fun w => rot8_any x k w HX.out hk0 hlt
      rw [← ho] at HO
      have HR2 := Lib.hid hr2
      obtain ⟨k1, hk1⟩ := nat_var (k + 1)
      have hw1 : IntKind.i64.wrap ((k : Int) + 1) = (k1 : Int) := by rw [IntWalk.i64_in _ (by omega)]; omega
      have HK1 := Lib.hid hk1
      rw [← hr]
      clear hk0 hk hlt hr ho hr2 hk1
      go_wp2_with (first
        | (have hgo := HO; clear hgo
           go_at_call 84
           refine (HO.out _).mono ?_
           rintro e w7 ⟨rfl, rfl⟩
           clear HO))
      go_roundw
      case rel => exact ⟨k + 1, by omega, HK.out, by rw [HK1.out], by rw [HR2.out], (by trivial)⟩
      case measure => (have := HK.out; have := HK1.out; simp [intOf]; try omega)
    · obtain rfl : k = 5 := by omega
      clear hk hk0 hlt
      rw [← HRES.out]
      go_wp2
      go_ret
      exact ⟨rfl, rfl⟩
theorem p3w_next (k : Nat) : p3w (k + 1) = p3w k ^^^ xtN (p3w k) := gfm_three _ (p3w_lt k)
set_option maxHeartbeats 4000000 in
set_option maxRecDepth 20000 in
theorem pow3_any (w : World) : Calls Try.prog 80 #[] w fun e w' => e = .returned (.agg (arrOf 256 (cF .u8 p3w))) ∧ Below w.heap.size w w' := by
  have Bw0 := Below.refl w.heap.size w
  have HGS : Hid (∀ wq : World, Below w.heap.size w wq → w.heap.size ≤ wq.heap.size) := Lib.hid fun wq h => h.size
  go_enter Try.func80, Try.ntmps80
  go_wp2_with (first
    | (have hgo := Bw0; clear hgo
       refine wpList_alloc_row rfl 51 rfl 256 (cF .u8 fun _ => 0) zeroB256 ?_
       intro b_t0 w1 lk r_t0 kk
       have l_t0 := zrl HGS Bw0 lk
       have Bw1 := zbt HGS Bw0 kk
       clear Bw0 kk lk)
    | (have hgo := Bw1; clear hgo
       refine wpList_alloc_row rfl 51 rfl 256 (cF .u8 fun _ => 0) zeroB256 ?_
       intro b_t1 w2 lk r_t1 kk
       have n_t0_t1 := zrn r_t0 lk
       have l_t1 := zrl HGS Bw1 lk
       replace r_t0 := zrb r_t0 kk
       have Bw2 := zbt HGS Bw1 kk
       clear Bw1 kk lk))
  go_loopw [2, 4] (fun xv iv wr => ∃ k : Nat, k ≤ 256 ∧ iv = .int .i64 (k : Int) ∧ xv = .int .u8 ((p3w k : Nat) : Int) ∧ wr.rowIs b_t0 51 256 (cF .u8 fun _ => 0) ∧ wr.rowIs b_t1 51 256 (cF .u8 (pwF k)) ∧ Below w.heap.size w wr) (fun _ iv _ => 256 - (intOf iv).toNat)
  case atStart => exact ⟨0, by decide, rfl, rfl, r_t0, r_t1.congr (fun j _ => by unfold cF pwF; rw [if_neg (Nat.not_lt_zero j)]), Bw2⟩
  case round =>
    clear r_t0 r_t1 Bw2
    obtain ⟨k, hk, rfl, rfl, r_t0, r_t1, Bw0⟩ := hrel
    by_cases hlt : k < 256
    · have hkI : 0 ≤ (k : Int) ∧ (k : Int) < 256 := by omega
      have HK := Lib.hid hlt
      obtain ⟨x, hx⟩ := nat_var (p3w k)
      have hxl : x < 256 := by rw [hx]; exact p3w_lt k
      rw [← hx]
      obtain ⟨y, hy⟩ := nat_var (xtN x)
      obtain ⟨x3, hx3⟩ := nat_var (p3w (k + 1))
      have HG := Lib.hid fun w => dbl_any x w hxl
      rw [← hy] at HG
      have e2 : bits .xor .u8 (x : Int) (y : Int) = (x3 : Int) := by
        rw [bits_xorN x y hxl (by rw [hy]; exact xtN_lt _), hx3, p3w_next, ← hx, hy]
      have HS1 : Hid (∀ j, j < 256 → pwF (k + 1) j = if j = k then x else pwF k j) := Lib.hid fun j _ => by
        unfold pwF
        by_cases e : j = k
        · rw [if_pos (by omega), if_pos e, hx, e]
        · rw [if_neg e]
          by_cases h2 : j < k
          · rw [if_pos h2, if_pos (by omega)]
          · rw [if_neg h2, if_neg (by omega)]
      have HX3 := Lib.hid hx3
      clear hk hlt hxl hx hx3 hy
      go_wp2_with (first
        | (have hgo := HS1; clear hgo
           refine wpList_store_c rfl 5 (.tmp 9) (.tmp 8) rfl (pwF (k + 1)) r_t1 HK.out rfl rfl (by kernel_rfl) HS1.out ?_
           intro w5 q5 g5
           replace r_t0 := gb_rowIs r_t0 g5 n_t0_t1
           have Bw1 := zbg HGS Bw0 g5 l_t1
           clear Bw0 g5 r_t1 HS1)
        | (have hgo := HG; clear hgo
           go_at_call 75
           refine (HG.out _).mono ?_
           rintro e w7 ⟨rfl, rfl⟩
           clear HG))
      go_roundw
      case rel => exact ⟨k + 1, HK.out, by have := HK.out; go_num, by rw [HX3.out], r_t0, q5, Bw1⟩
      case measure => (have := HK.out; simp [intOf]; try omega)
    · obtain rfl : k = 256 := by omega
      replace r_t1 := r_t1.congr (g := cF .u8 p3w) (fun j hj => by unfold cF pwF; rw [if_pos hj])
      clear hk hlt
      go_wp2_with (first
        | (refine wpList_load_as rfl 51 (.tmp 1) rfl 256 (cF .u8 p3w) arrB256 r_t1 rfl (by omega) (fun i hi => by rw [Nat.zero_add]) ?_)
        | (have hgo := Bw0; clear hgo
           refine wpList_store_as rfl 51 (.tmp 0) (.tmp 15) rfl 256 (cF .u8 p3w) arrB256 r_t0 rfl rfl (by omega) (fun _ _ => rfl) (fun i hi => putN_whole hi) ?_
           intro w9 q9 g9
           have Bw9 := zbg HGS Bw0 g9 l_t0
           clear Bw0 g9 r_t0))
      exact ret_cell_as _ rfl arrB256 q9 rfl (by omega) (fun _ _ => rfl) rfl ⟨rfl, Bw9⟩
/-- The box behind k powers. -/
def obF : Nat → Nat → Nat
  | 0, j => if j = 0 then 99 else 0
  | k + 1, j => if j = p3w k then xr (p3w (255 - k)) 5 else obF k j
end Go.Proofs.Ytclbfbkbmiijnaa

/- The program's AES: the box is the document's. -/
namespace Go.Proofs.Ytclbfbkbmiijnaa
open Go.RowKit Go.Deep
set_option linter.unusedSimpArgs false
set_option linter.unusedVariables false

def tabP (i : Nat) : Nat := 247704880781559356684414323119999879637317647180040216102211349143305888774923398537951341803642731683984666991564019150676315804531779449815159115664189418245566988781254625896260912026622159780553349108386186142268315007856282091988200171439146255715840100601167723801170608095743514940052926055042184507632911811387723359914440662207451538163404716729158929845121383729837235901114109841630616474463024741216292666125260571984924724184385554713500007113061044175325657975136216706165622836048350080632971744177780693200859426168487707538171671676645432511882666690861394815764438377708986394032816479809277592321 / 2 ^ (8 * i) % 256
def tabL (i : Nat) : Nat := 939374623831894136699086600277250597547650664638770418422125146541797353646788332867483593573384618611044815625336497665827114626705134492515730415652478061620339993830966980270842846318821775850471098591710629241171812800746666233448222972174585295916389942636813666312872914849454985560152530477328703759683306625234997237483834721220409437442253146756845415190424543171129629468776480674528486868811725071010351012234056630775688111116293610821126543142160426617079940511630006820862697466582575257349116925728488930366609138264019883664906661504235885380294353134295748489096855100647154935187045898006656778240 / 2 ^ (8 * i) % 256
theorem tabP_step : ∀ i : Fin 255, gfm (tabP i.val) 3 = tabP (i.val + 1) := by decide +kernel
theorem p3w_tab : ∀ i, i ≤ 255 → p3w i = tabP i
  | 0, _ => by decide +kernel
  | i + 1, h => by
    show gfm (p3w i) 3 = _
    rw [p3w_tab i (by omega)]
    exact tabP_step ⟨i, by omega⟩
theorem tab_log : ∀ j : Fin 256, j.val = 0 ∨ (tabL j.val < 255 ∧ tabP (tabL j.val) = j.val) := by decide +kernel
theorem tab_exp : ∀ i : Fin 255, tabL (tabP i.val) = i.val := by decide +kernel
theorem tabP_ne : ∀ i : Fin 256, tabP i.val ≠ 0 := by decide +kernel
theorem p3w_log (j : Nat) (h : j < 256) (h0 : j ≠ 0) : tabL j < 255 ∧ p3w (tabL j) = j := by
  rcases tab_log ⟨j, h⟩ with h1 | ⟨h1, h2⟩
  · exact absurd h1 h0
  · exact ⟨h1, (p3w_tab _ (Nat.le_of_lt h1)).trans h2⟩
theorem log_p3w (k : Nat) (h : k < 255) : tabL (p3w k) = k := by rw [p3w_tab k (Nat.le_of_lt h)]; exact tab_exp ⟨k, h⟩
theorem p3w_ne (k : Nat) (h : k ≤ 255) : p3w k ≠ 0 := by rw [p3w_tab k h]; exact tabP_ne ⟨k, by omega⟩
theorem atF_log (j : Nat) (hj : j < 256) (h0 : j ≠ 0) : ∀ k, k ≤ 255 → tabL j < k → atF k j = tabL j
  | 0, _, h => absurd h (Nat.not_lt_zero _)
  | k + 1, hk, h => by
    unfold atF
    by_cases e : j = p3w k
    · rw [if_pos e, e, log_p3w k (by omega)]
    · rw [if_neg e]
      refine atF_log j hj h0 k (by omega) ?_
      rcases Nat.lt_or_ge (tabL j) k with h1 | h1
      · exact h1
      · have h2 : tabL j = k := by omega
        exact absurd ((p3w_log j hj h0).2.symm.trans (by rw [h2])) e
theorem obF_log (j : Nat) (hj : j < 256) (h0 : j ≠ 0) : ∀ k, k ≤ 255 → tabL j < k → obF k j = xr (p3w (255 - tabL j)) 5
  | 0, _, h => absurd h (Nat.not_lt_zero _)
  | k + 1, hk, h => by
    unfold obF
    by_cases e : j = p3w k
    · rw [if_pos e, e, log_p3w k (by omega)]
    · rw [if_neg e]
      refine obF_log j hj h0 k (by omega) ?_
      rcases Nat.lt_or_ge (tabL j) k with h1 | h1
      · exact h1
      · have h2 : tabL j = k := by omega
        exact absurd ((p3w_log j hj h0).2.symm.trans (by rw [h2])) e
theorem obF_zero : ∀ k, k ≤ 256 → obF k 0 = 99
  | 0, _ => rfl
  | k + 1, h => by
    unfold obF
    rw [if_neg (fun e => p3w_ne k (by omega) e.symm)]
    exact obF_zero k (by omega)
theorem p3w_255 : p3w 255 = 1 := by rw [p3w_tab 255 (by decide)]; decide +kernel
theorem log_one : tabL 1 = 0 := by decide +kernel
theorem obF_box (j : Nat) (hj : j < 256) : obF 256 j = boxN j := by
  by_cases h0 : j = 0
  · subst h0
    rw [obF_zero 256 (by decide)]
    show _ = xr (invB 0) 5
    rw [show invB 0 = 0 from rfl]
    decide +kernel
  · show (if j = p3w 255 then xr (p3w (255 - 255)) 5 else obF 255 j) = xr (invB j) 5
    have hl := p3w_log j hj h0
    have hi : invB j = p3w ((255 - tabL j) % 255) := by
      unfold invB
      rw [if_pos (by omega), atF_log j hj h0 255 (by decide) hl.1]
    rw [hi]
    by_cases h1 : j = 1
    · subst h1
      rw [if_pos p3w_255.symm, log_one]
    · rw [if_neg (by rw [p3w_255]; exact h1), obF_log j hj h0 255 (by decide) hl.1]
      have hne : tabL j ≠ 0 := fun e => h1 (by rw [← hl.2, e]; rfl)
      rw [Nat.mod_eq_of_lt (by omega)]
set_option maxHeartbeats 4000000 in
set_option maxRecDepth 20000 in
theorem pboxes_any (w : World) : Calls Try.prog 71 #[] w fun e w' => e = .returned (.agg (arrOf 256 (cF .u8 boxN))) ∧ Below w.heap.size w w' := by
  have Bw0 := Below.refl w.heap.size w
  have HGS : Hid (∀ wq : World, Below w.heap.size w wq → w.heap.size ≤ wq.heap.size) := Lib.hid fun wq h => h.size
  have HSP := Lib.hid fun w => spread_any 0 w (by decide)
  rw [show xr 0 5 = 99 by decide +kernel] at HSP
  have HS0 : Hid (∀ j, j < 256 → obF 0 j = if j = 0 then 99 else (fun _ => 0) j) := Lib.hid fun j _ => rfl
  go_enter Try.func71, Try.ntmps71
  go_wp2_with (first
    | (have hgo := Bw0; clear hgo
       refine wpList_alloc_row rfl 51 rfl 256 (cF .u8 fun _ => 0) zeroB256 ?_
       intro b_t0 w1 lk r_t0 kk
       have l_t0 := zrl HGS Bw0 lk
       have Bw1 := zbt HGS Bw0 kk
       clear Bw0 kk lk)
    | (have hgo := Bw1; clear hgo
       go_at_call 80
       refine (pow3_any _).mono ?_
       rintro e w2 ⟨rfl, kk⟩
       replace r_t0 := zrb r_t0 kk
       have Bw2 := zbt HGS Bw1 kk
       clear Bw1 kk)
    | (have hgo := Bw2; clear hgo
       refine wpList_alloc_row rfl 51 rfl 256 (cF .u8 fun _ => 0) zeroB256 ?_
       intro b_t1 w3 lk r_t1 kk
       have n_t0_t1 := zrn r_t0 lk
       have l_t1 := zrl HGS Bw2 lk
       replace r_t0 := zrb r_t0 kk
       have Bw3 := zbt HGS Bw2 kk
       clear Bw2 kk lk)
    | (have hgo := Bw3; clear hgo
       refine wpList_store_as rfl 51 (.tmp 1) (.tmp 5) rfl 256 (cF .u8 p3w) arrB256 r_t1 rfl rfl (by omega) (fun _ _ => rfl) (fun i hi => putN_whole hi) ?_
       intro w4 q gk
       replace r_t0 := gb_rowIs r_t0 gk n_t0_t1
       replace r_t1 := q
       have Bw4 := zbg HGS Bw3 gk l_t1
       clear Bw3 gk q)
    | (have hgo := Bw4; clear hgo
       refine wpList_alloc_row rfl 51 rfl 256 (cF .u8 fun _ => 0) zeroB256 ?_
       intro b_t2 w5 lk r_t2 kk
       have n_t0_t2 := zrn r_t0 lk
       have n_t1_t2 := zrn r_t1 lk
       have l_t2 := zrl HGS Bw4 lk
       replace r_t0 := zrb r_t0 kk
       replace r_t1 := zrb r_t1 kk
       have Bw5 := zbt HGS Bw4 kk
       clear Bw4 kk lk)
    | (have hgo := HSP; clear hgo
       go_at_call 81
       refine (HSP.out _).mono ?_
       rintro e w6 ⟨rfl, rfl⟩
       clear HSP)
    | (have hgo := Bw5; clear hgo
       refine wpList_store_c rfl 5 (.tmp 7) (.tmp 6) rfl (obF 0) r_t2 (by decide) rfl rfl (by kernel_rfl) HS0.out ?_
       intro w7 q gk
       replace r_t0 := gb_rowIs r_t0 gk n_t0_t2
       replace r_t1 := gb_rowIs r_t1 gk n_t1_t2
       replace r_t2 := q
       have Bw6 := zbg HGS Bw5 gk l_t2
       clear Bw5 gk q)
    | (have hgo := Bw6; clear hgo
       refine wpList_load_as rfl 51 (.tmp 1) rfl 256 (cF .u8 p3w) arrB256 r_t1 rfl (by omega) (fun i hi => by rw [Nat.zero_add]) ?_
       have Bw7 := Bw6
       clear Bw6))
  go_loopw [9] (fun iv wr => ∃ k : Nat, k ≤ 256 ∧ iv = .int .i64 (k : Int) ∧ wr.rowIs b_t0 51 256 (cF .u8 fun _ => 0) ∧ wr.rowIs b_t1 51 256 (cF .u8 p3w) ∧ wr.rowIs b_t2 51 256 (cF .u8 (obF k)) ∧ Below w.heap.size w wr) (fun iv _ => 256 - (intOf iv).toNat)
  case atStart => exact ⟨0, by decide, rfl, r_t0, r_t1, r_t2, Bw7⟩
  case round =>
    clear r_t0 r_t1 r_t2 Bw7
    obtain ⟨k, hk, rfl, r_t0, r_t1, r_t2, Bw0⟩ := hrel
    by_cases hlt : k < 256
    · have hkI : 0 ≤ (k : Int) ∧ (k : Int) < 256 := by omega
      have HK := Lib.hid hlt
      obtain ⟨x, hx⟩ := nat_var (p3w k)
      have hxl : x < 256 := by rw [hx]; exact p3w_lt k
      have hxI : 0 ≤ (x : Int) ∧ (x : Int) < 256 := by omega
      obtain ⟨m, hm⟩ := nat_var (255 - k)
      have hw1 : IntKind.i64.wrap (255 - (k : Int)) = (m : Int) := by rw [IntWalk.i64_in _ (by omega)]; omega
      have hmI : 0 ≤ (m : Int) ∧ (m : Int) < 256 := by omega
      obtain ⟨y, hy⟩ := nat_var (p3w m)
      have hyl : y < 256 := by rw [hy]; exact p3w_lt m
      obtain ⟨z, hz⟩ := nat_var (xr y 5)
      have HG := Lib.hid fun w => spread_any y w hyl
      rw [← hz] at HG
      have HX : Hid (p3w k = x) := Lib.hid hx.symm
      have HY : Hid (p3w m = y) := Lib.hid hy.symm
      have HXL := Lib.hid hxl
      have HML : Hid (m < 256) := Lib.hid (by omega)
      have HS1 : Hid (∀ j, j < 256 → obF (k + 1) j = if j = x then z else obF k j) := Lib.hid fun j _ => by
        rw [hz, hy, hm, hx]
        rfl
      clear hk hlt hxl hx hm hy hyl hz
      go_wp2_with (first
        | (have hgo := HX; clear hgo
           refine wpList_index_c rfl 51 5 (.tmp 8) (.tmp 9) rfl 256 (by kernel_rfl) _ rfl rfl (by kernel_rfl) rfl rfl HK.out HX.out ?_
           clear HX)
        | (have hgo := HY; clear hgo
           refine wpList_load_c rfl 5 (.tmp 16) rfl r_t1 HML.out rfl (by kernel_rfl) HY.out ?_
           clear HY)
        | (have hgo := HG; clear hgo
           go_at_call 81
           refine (HG.out _).mono ?_
           rintro e w7 ⟨rfl, rfl⟩
           clear HG)
        | (have hgo := HS1; clear hgo
           refine wpList_store_c rfl 5 (.tmp 19) (.tmp 18) rfl (obF (k + 1)) r_t2 HXL.out rfl rfl (by kernel_rfl) HS1.out ?_
           intro w5 q5 g5
           replace r_t0 := gb_rowIs r_t0 g5 n_t0_t2
           replace r_t1 := gb_rowIs r_t1 g5 n_t1_t2
           have Bw1 := zbg HGS Bw0 g5 l_t2
           clear Bw0 g5 r_t2 HS1))
      go_roundw
      case rel => exact ⟨k + 1, HK.out, by have := HK.out; go_num, r_t0, r_t1, q5, Bw1⟩
      case measure => (have := HK.out; simp [intOf]; try omega)
    · obtain rfl : k = 256 := by omega
      replace r_t2 := r_t2.congr (g := cF .u8 boxN) (fun j hj => by unfold cF; rw [obF_box j hj])
      clear hk hlt
      go_wp2_with (first
        | (refine wpList_load_as rfl 51 (.tmp 2) rfl 256 (cF .u8 boxN) arrB256 r_t2 rfl (by omega) (fun i hi => by rw [Nat.zero_add]) ?_)
        | (have hgo := Bw0; clear hgo
           refine wpList_store_as rfl 51 (.tmp 0) (.tmp 21) rfl 256 (cF .u8 boxN) arrB256 r_t0 rfl rfl (by omega) (fun _ _ => rfl) (fun i hi => putN_whole hi) ?_
           intro w9 q9 g9
           have Bw9 := zbg HGS Bw0 g9 l_t0
           clear Bw0 g9 r_t0))
      exact ret_cell_as _ rfl arrB256 q9 rfl (by omega) (fun _ _ => rfl) rfl ⟨rfl, Bw9⟩
end Go.Proofs.Ytclbfbkbmiijnaa

/- The program's AES: words. -/
namespace Go.Proofs.Ytclbfbkbmiijnaa
open Go.RowKit Go.Deep
set_option linter.unusedSimpArgs false
set_option linter.unusedVariables false

set_option maxHeartbeats 4000000 in
set_option maxRecDepth 20000 in
theorem doubled_any (a b c d : Nat) (w : World) (ha : a < 256) (hb : b < 256) (hc : c < 256) (hd : d < 256) : Calls Try.prog 83 #[.int .u32 ((w4 a b c d : Nat) : Int)] w fun e w' => e = .returned (.int .u32 ((w4 (xtN a) (xtN b) (xtN c) (xtN d) : Nat) : Int)) ∧ w' = w := by
  obtain ⟨x, hx⟩ := nat_var (w4 a b c d)
  obtain ⟨p, hp⟩ := nat_var (w4 (a &&& 128) (b &&& 128) (c &&& 128) (d &&& 128))
  obtain ⟨y, hy⟩ := nat_var (w4 (a ^^^ (a &&& 128)) (b ^^^ (b &&& 128)) (c ^^^ (c &&& 128)) (d ^^^ (d &&& 128)))
  obtain ⟨z, hz⟩ := nat_var (w4 ((a &&& 127) * 2) ((b &&& 127) * 2) ((c &&& 127) * 2) ((d &&& 127) * 2))
  obtain ⟨s, hs⟩ := nat_var (w4 (a / 128) (b / 128) (c / 128) (d / 128))
  obtain ⟨t, ht⟩ := nat_var (w4 (a / 128 * 27) (b / 128 * 27) (c / 128 * 27) (d / 128 * 27))
  obtain ⟨r, hr⟩ := nat_var (w4 (xtN a) (xtN b) (xtN c) (xtN d))
  have A := xt_split a ha
  have B := xt_split b hb
  have C := xt_split c hc
  have D := xt_split d hd
  have hxl : x < 4294967296 := by rw [hx]; exact w4_lt ha hb hc hd
  have hpl : p < 4294967296 := by rw [hp]; exact w4_lt A.2.2.2.1 B.2.2.2.1 C.2.2.2.1 D.2.2.2.1
  have hzl : z < 4294967296 := by rw [hz]; exact w4_lt (by omega) (by omega) (by omega) (by omega)
  have htl : t < 4294967296 := by rw [ht]; exact w4_lt (by omega) (by omega) (by omega) (by omega)
  have e1 : bits .and .u32 (x : Int) 2155905152 = (p : Int) := by
    refine (bits_and32 x 2155905152 hxl (by decide)).trans ?_
    rw [hx, hp, show 2155905152 = w4 128 128 128 128 from rfl, w4_and hb hc hd (by decide) (by decide) (by decide)]
  have e2 : bits .xor .u32 (x : Int) (p : Int) = (y : Int) := by
    rw [bits_xor32 x p hxl hpl, hx, hp, hy, w4_xor hb hc hd B.2.2.2.1 C.2.2.2.1 D.2.2.2.1]
  have e3 : IntKind.u32.wrap ((y : Int) * 2) = (z : Int) := by
    rw [IntKind.wrap_u32, hy, hz, ← A.1, ← B.1, ← C.1, ← D.1]
    have h1 := A.2.2.2.2.1
    have h2 := B.2.2.2.2.1
    have h3 := C.2.2.2.2.1
    have h4 := D.2.2.2.2.1
    generalize a ^^^ (a &&& 128) = a1 at h1 ⊢
    generalize b ^^^ (b &&& 128) = b1 at h2 ⊢
    generalize c ^^^ (c &&& 128) = c1 at h3 ⊢
    generalize d ^^^ (d &&& 128) = d1 at h4 ⊢
    unfold w4
    omega
  have e4 : (p : Int) / 128 = (s : Int) := by
    rw [hp, hs, ← A.2.1, ← B.2.1, ← C.2.1, ← D.2.1]
    have h1 := A.2.2.1
    have h2 := B.2.2.1
    have h3 := C.2.2.1
    have h4 := D.2.2.1
    generalize (a &&& 128) = a1 at h1 ⊢
    generalize (b &&& 128) = b1 at h2 ⊢
    generalize (c &&& 128) = c1 at h3 ⊢
    generalize (d &&& 128) = d1 at h4 ⊢
    unfold w4
    omega
  have e5 : IntKind.u32.wrap ((s : Int) * 27) = (t : Int) := by
    rw [IntKind.wrap_u32, hs, ht]
    have h1 : a / 128 < 2 := by omega
    have h2 : b / 128 < 2 := by omega
    have h3 : c / 128 < 2 := by omega
    have h4 : d / 128 < 2 := by omega
    generalize a / 128 = a1 at h1 ⊢
    generalize b / 128 = b1 at h2 ⊢
    generalize c / 128 = c1 at h3 ⊢
    generalize d / 128 = d1 at h4 ⊢
    unfold w4
    omega
  have e6 : bits .xor .u32 (z : Int) (t : Int) = (r : Int) := by
    rw [bits_xor32 z t hzl htl, hz, ht, hr, w4_xor (by omega) (by omega) (by omega) (by omega) (by omega) (by omega), xt_parts a ha, xt_parts b hb, xt_parts c hc, xt_parts d hd]
  rw [← hx, ← hr]
  clear hx hp hy hz hs ht hr A B C D hxl hpl hzl htl ha hb hc hd
  go_enter Try.func83, Try.ntmps83
  go_wp2
  go_ret
  exact ⟨rfl, rfl⟩
set_option maxHeartbeats 4000000 in
set_option maxRecDepth 20000 in
theorem rotw_8 (a b c d : Nat) (w : World) (ha : a < 256) (hb : b < 256) (hc : c < 256) (hd : d < 256) : Calls Try.prog 74 #[.int .u32 ((w4 a b c d : Nat) : Int), .int .i64 8] w fun e w' => e = .returned (.int .u32 ((w4 b c d a : Nat) : Int)) ∧ w' = w := by
  obtain ⟨x, hx⟩ := nat_var (w4 a b c d)
  obtain ⟨s, hs⟩ := nat_var (w4 b c d 0)
  obtain ⟨t, ht⟩ := nat_var (w4 0 0 0 a)
  obtain ⟨r, hr⟩ := nat_var (w4 b c d a)
  have e1 : IntKind.u32.wrap ((x : Int) * 256) = (s : Int) := by rw [IntKind.wrap_u32, hx, hs]; unfold w4; omega
  have e2 : (x : Int) / 16777216 = (t : Int) := by rw [hx, ht]; unfold w4; omega
  have e3 : bits .or .u32 (s : Int) (t : Int) = (r : Int) := by
    rw [bits_or32 s t (by rw [hs]; exact w4_lt (by omega) (by omega) (by omega) (by omega)) (by rw [ht]; exact w4_lt (by omega) (by omega) (by omega) (by omega)), hs, ht, hr, w4_or (by omega) (by omega) (by omega) (by omega) (by omega) (by omega)]
    simp
  have c1 : bits .and .u64 8 31 = 8 := by decide
  rw [← hx, ← hr]
  clear hx hs ht hr ha hb hc hd
  go_enter Try.func74, Try.ntmps74
  go_wp2
  go_ret
  exact ⟨rfl, rfl⟩
set_option maxHeartbeats 4000000 in
set_option maxRecDepth 20000 in
theorem rotw_16 (a b c d : Nat) (w : World) (ha : a < 256) (hb : b < 256) (hc : c < 256) (hd : d < 256) : Calls Try.prog 74 #[.int .u32 ((w4 a b c d : Nat) : Int), .int .i64 16] w fun e w' => e = .returned (.int .u32 ((w4 c d a b : Nat) : Int)) ∧ w' = w := by
  obtain ⟨x, hx⟩ := nat_var (w4 a b c d)
  obtain ⟨s, hs⟩ := nat_var (w4 c d 0 0)
  obtain ⟨t, ht⟩ := nat_var (w4 0 0 a b)
  obtain ⟨r, hr⟩ := nat_var (w4 c d a b)
  have e1 : IntKind.u32.wrap ((x : Int) * 65536) = (s : Int) := by rw [IntKind.wrap_u32, hx, hs]; unfold w4; omega
  have e2 : (x : Int) / 65536 = (t : Int) := by rw [hx, ht]; unfold w4; omega
  have e3 : bits .or .u32 (s : Int) (t : Int) = (r : Int) := by
    rw [bits_or32 s t (by rw [hs]; exact w4_lt (by omega) (by omega) (by omega) (by omega)) (by rw [ht]; exact w4_lt (by omega) (by omega) (by omega) (by omega)), hs, ht, hr, w4_or (by omega) (by omega) (by omega) (by omega) (by omega) (by omega)]
    simp
  have c1 : bits .and .u64 16 31 = 16 := by decide
  rw [← hx, ← hr]
  clear hx hs ht hr ha hb hc hd
  go_enter Try.func74, Try.ntmps74
  go_wp2
  go_ret
  exact ⟨rfl, rfl⟩
set_option maxHeartbeats 4000000 in
set_option maxRecDepth 20000 in
theorem rotw_24 (a b c d : Nat) (w : World) (ha : a < 256) (hb : b < 256) (hc : c < 256) (hd : d < 256) : Calls Try.prog 74 #[.int .u32 ((w4 a b c d : Nat) : Int), .int .i64 24] w fun e w' => e = .returned (.int .u32 ((w4 d a b c : Nat) : Int)) ∧ w' = w := by
  obtain ⟨x, hx⟩ := nat_var (w4 a b c d)
  obtain ⟨s, hs⟩ := nat_var (w4 d 0 0 0)
  obtain ⟨t, ht⟩ := nat_var (w4 0 a b c)
  obtain ⟨r, hr⟩ := nat_var (w4 d a b c)
  have e1 : IntKind.u32.wrap ((x : Int) * 16777216) = (s : Int) := by rw [IntKind.wrap_u32, hx, hs]; unfold w4; omega
  have e2 : (x : Int) / 256 = (t : Int) := by rw [hx, ht]; unfold w4; omega
  have e3 : bits .or .u32 (s : Int) (t : Int) = (r : Int) := by
    rw [bits_or32 s t (by rw [hs]; exact w4_lt (by omega) (by omega) (by omega) (by omega)) (by rw [ht]; exact w4_lt (by omega) (by omega) (by omega) (by omega)), hs, ht, hr, w4_or (by omega) (by omega) (by omega) (by omega) (by omega) (by omega)]
    simp
  have c1 : bits .and .u64 24 31 = 24 := by decide
  rw [← hx, ← hr]
  clear hx hs ht hr ha hb hc hd
  go_enter Try.func74, Try.ntmps74
  go_wp2
  go_ret
  exact ⟨rfl, rfl⟩
theorem and_255 (x : Nat) (h : x < 4294967296) : bits .and .u32 (x : Int) 255 = ((x % 256 : Nat) : Int) := (bits_and32 x 255 h (by decide)).trans (by rw [Nat.and_two_pow_sub_one_eq_mod x 8])
set_option maxHeartbeats 4000000 in
set_option maxRecDepth 20000 in
theorem sub_any (b : Nat) (F : Nat → Value) (p q r s : Nat) (w : World) (hR : w.rowIs b 99 316 F) (hF : ∀ j, j < 256 → F j = .int .u8 ((boxN j : Nat) : Int)) (hp : p < 256) (hq : q < 256) (hr : r < 256) (hs : s < 256) : Calls Try.prog 73 #[.pointer (some ⟨b, 0, none⟩), .int .u32 ((w4 p q r s : Nat) : Int)] w fun e w' => e = .returned (.int .u32 ((w4 (boxN p) (boxN q) (boxN r) (boxN s) : Nat) : Int)) ∧ Below w.heap.size w w' := by
  have Bw0 := Below.refl w.heap.size w
  obtain ⟨x, hx⟩ := nat_var (w4 p q r s)
  obtain ⟨RES, hRES⟩ := nat_var (w4 (boxN p) (boxN q) (boxN r) (boxN s))
  have hxl : x < 4294967296 := by rw [hx]; exact w4_lt hp hq hr hs
  have W4 := w4_parts hp hq hr hs
  rw [← hx] at W4
  obtain ⟨p1, hp1⟩ := nat_var (boxN p)
  obtain ⟨q1, hq1⟩ := nat_var (boxN q)
  obtain ⟨r1, hr1⟩ := nat_var (boxN r)
  obtain ⟨s1, hs1⟩ := nat_var (boxN s)
  have p1l : p1 < 256 := by rw [hp1]; exact boxN_lt p
  have q1l : q1 < 256 := by rw [hq1]; exact boxN_lt q
  have r1l : r1 < 256 := by rw [hr1]; exact boxN_lt r
  have s1l : s1 < 256 := by rw [hs1]; exact boxN_lt s
  have CP : ∀ w0, Below w.drew.heap.size w.drew w0 → w0.cell? ⟨b, p, none⟩ = some (.int .u8 (p1 : Int)) := fun w0 hb => by rw [hp1, ← hF p hp]; exact (zrb hR.drew hb).cell (by omega)
  have CQ : ∀ w0, Below w.drew.heap.size w.drew w0 → w0.cell? ⟨b, q, none⟩ = some (.int .u8 (q1 : Int)) := fun w0 hb => by rw [hq1, ← hF q hq]; exact (zrb hR.drew hb).cell (by omega)
  have CR : ∀ w0, Below w.drew.heap.size w.drew w0 → w0.cell? ⟨b, r, none⟩ = some (.int .u8 (r1 : Int)) := fun w0 hb => by rw [hr1, ← hF r hr]; exact (zrb hR.drew hb).cell (by omega)
  have CS : ∀ w0, Below w.drew.heap.size w.drew w0 → w0.cell? ⟨b, s, none⟩ = some (.int .u8 (s1 : Int)) := fun w0 hb => by rw [hs1, ← hF s hs]; exact (zrb hR.drew hb).cell (by omega)
  obtain ⟨p2, hp2⟩ := nat_var (w4 p1 0 0 0)
  obtain ⟨q2, hq2⟩ := nat_var (w4 0 q1 0 0)
  obtain ⟨r2, hr2⟩ := nat_var (w4 0 0 r1 0)
  obtain ⟨o1, ho1⟩ := nat_var (w4 p1 q1 0 0)
  obtain ⟨o2, ho2⟩ := nat_var (w4 p1 q1 r1 0)
  obtain ⟨o3, ho3⟩ := nat_var (w4 p1 q1 r1 s1)
  obtain ⟨qq, hqq⟩ := nat_var (x / 65536)
  obtain ⟨rr, hrr⟩ := nat_var (x / 256)
  have OR := w4_or0 p1l q1l r1l s1l
  have a1 : (x : Int) / 16777216 = (p : Int) := by omega
  have a2 : (x : Int) / 65536 = (qq : Int) := by omega
  have a3 : (x : Int) / 256 = (rr : Int) := by omega
  have a4 : bits .and .u32 (qq : Int) 255 = (q : Int) := by rw [and_255 qq (by omega)]; omega
  have a5 : bits .and .u32 (rr : Int) 255 = (r : Int) := by rw [and_255 rr (by omega)]; omega
  have a6 : bits .and .u32 (x : Int) 255 = (s : Int) := by rw [and_255 x hxl]; omega
  have b1 : IntKind.u32.wrap (p1 : Int) = (p1 : Int) := by rw [IntKind.wrap_u32]; omega
  have b2 : IntKind.u32.wrap (q1 : Int) = (q1 : Int) := by rw [IntKind.wrap_u32]; omega
  have b3 : IntKind.u32.wrap (r1 : Int) = (r1 : Int) := by rw [IntKind.wrap_u32]; omega
  have b4 : IntKind.u32.wrap (s1 : Int) = (s1 : Int) := by rw [IntKind.wrap_u32]; omega
  have c1 : IntKind.u32.wrap ((p1 : Int) * 16777216) = (p2 : Int) := by rw [IntKind.wrap_u32, hp2]; unfold w4; omega
  have c2 : IntKind.u32.wrap ((q1 : Int) * 65536) = (q2 : Int) := by rw [IntKind.wrap_u32, hq2]; unfold w4; omega
  have c3 : IntKind.u32.wrap ((r1 : Int) * 256) = (r2 : Int) := by rw [IntKind.wrap_u32, hr2]; unfold w4; omega
  have d1 : bits .or .u32 (p2 : Int) (q2 : Int) = (o1 : Int) := by rw [bits_or32 p2 q2 (by rw [hp2]; exact w4_lt p1l (by decide) (by decide) (by decide)) (by rw [hq2]; exact w4_lt (by decide) q1l (by decide) (by decide)), hp2, hq2, OR.1, ho1]
  have d2 : bits .or .u32 (o1 : Int) (r2 : Int) = (o2 : Int) := by rw [bits_or32 o1 r2 (by rw [ho1]; exact w4_lt p1l q1l (by decide) (by decide)) (by rw [hr2]; exact w4_lt (by decide) (by decide) r1l (by decide)), ho1, hr2, OR.2.1, ho2]
  have d3 : bits .or .u32 (o2 : Int) (s1 : Int) = (o3 : Int) := by
    have h := OR.2.2
    rw [show w4 0 0 0 s1 = s1 by unfold w4; omega] at h
    rw [bits_or32 o2 s1 (by rw [ho2]; exact w4_lt p1l q1l r1l (by decide)) (by omega), ho2, h, ho3]
  have pI : 0 ≤ (p : Int) ∧ (p : Int) < 256 := by omega
  have qI : 0 ≤ (q : Int) ∧ (q : Int) < 256 := by omega
  have rI : 0 ≤ (r : Int) ∧ (r : Int) < 256 := by omega
  have sI : 0 ≤ (s : Int) ∧ (s : Int) < 256 := by omega
  have HO : Hid (o3 = RES) := Lib.hid (by rw [ho3, hRES, hp1, hq1, hr1, hs1])
  rw [← hx, ← hRES]
  have CP := Lib.hid CP
  have CQ := Lib.hid CQ
  have CR := Lib.hid CR
  have CS := Lib.hid CS
  clear hx hRES hxl W4 hp1 hq1 hr1 hs1 p1l q1l r1l s1l hp2 hq2 hr2 ho1 ho2 ho3 hqq hrr OR hF hp hq hr hs
  go_enter Try.func73, Try.ntmps73
  go_wp2
  refine wp_region_lint (.rd 0 (.rd 1 (.rd 2 (.rd 3 (.rd 4 (.rd 5 (.rd 6 (.rd 7 (.rd 8 (.rd 9 (.rd 10 (.rd 11 (.rd 12 (.rd 13 (.rd 14 (.rd 15 (.rd 16 (.rd 17 (.rd 18 (.rd 19 (.rd 20 (.rd 21 (.rd 22 (.rd 23 (.rd 24 (.rd 25 (.rd 26 (.rd 27 (.rd 28 (.rd 29 (.rd 30 (.rd 31 (.rd 32 (.rd 33 (.rd 34 (.rd 35 (.rd 36 (.rd 37 (.rd 38 (.rd 39 (.rd 40 .done))))))))))))))))))))))))))))))))))))))))) (by kernel_rfl) (by kernel_rfl) (by decide) (by kernel_rfl) (fun d _ _ _ _ h => by cases d <;> exact h) ?_
  refine lint_pure 5 _ _ (.pointer (some ⟨b, 0, none⟩)) rfl rfl rfl rfl rfl (fun w0 hb0 => by unfold mkOp; go_simp; all_goals (with_reducible rfl)) ?_
  simp only [Act.put, zA, zB, zC]
  refine lint_pure 6 _ _ (.int .u32 (x : Int)) rfl rfl rfl rfl rfl (fun w0 hb0 => by unfold mkOp; go_simp; all_goals (with_reducible rfl)) ?_
  simp only [Act.put, zA, zB, zC]
  refine lint_pure 7 _ _ (.int .u32 (p : Int)) rfl rfl rfl rfl rfl (fun w0 hb0 => by unfold mkOp; go_simp; all_goals (with_reducible rfl)) ?_
  simp only [Act.put, zA, zB, zC]
  refine lint_pure 8 _ _ (.pointer (some ⟨b, 0, none⟩)) rfl rfl rfl rfl rfl (fun w0 hb0 => by unfold mkOp; go_simp; all_goals (with_reducible rfl)) ?_
  simp only [Act.put, zA, zB, zC]
  refine lint_pure 9 _ _ (.pointer (some ⟨b, 0, none⟩)) rfl rfl rfl rfl rfl (fun w0 hb0 => by unfold mkOp; go_simp; all_goals (with_reducible rfl)) ?_
  simp only [Act.put, zA, zB, zC]
  refine lint_pure 10 _ _ (.pointer (some ⟨b, p, none⟩)) rfl rfl rfl rfl rfl (fun w0 hb0 => by unfold mkOp; go_simp; all_goals (with_reducible rfl)) ?_
  simp only [Act.put, zA, zB, zC]
  refine lint_pure 11 _ _ (.int .u8 (p1 : Int)) rfl rfl rfl rfl rfl (fun w0 hb0 => by have c9 := CP.out w0 hb0; unfold mkOp; go_simp; all_goals (with_reducible rfl)) ?_
  simp only [Act.put, zA, zB, zC]
  refine lint_pure 12 _ _ (.int .u32 (p1 : Int)) rfl rfl rfl rfl rfl (fun w0 hb0 => by unfold mkOp; go_simp; all_goals (with_reducible rfl)) ?_
  simp only [Act.put, zA, zB, zC]
  refine lint_pure 13 _ _ (.int .u32 (p2 : Int)) rfl rfl rfl rfl rfl (fun w0 hb0 => by unfold mkOp; go_simp; all_goals (with_reducible rfl)) ?_
  simp only [Act.put, zA, zB, zC]
  refine lint_pure 14 _ _ (.pointer (some ⟨b, 0, none⟩)) rfl rfl rfl rfl rfl (fun w0 hb0 => by unfold mkOp; go_simp; all_goals (with_reducible rfl)) ?_
  simp only [Act.put, zA, zB, zC]
  refine lint_pure 15 _ _ (.int .u32 (x : Int)) rfl rfl rfl rfl rfl (fun w0 hb0 => by unfold mkOp; go_simp; all_goals (with_reducible rfl)) ?_
  simp only [Act.put, zA, zB, zC]
  refine lint_pure 16 _ _ (.int .u32 (qq : Int)) rfl rfl rfl rfl rfl (fun w0 hb0 => by unfold mkOp; go_simp; all_goals (with_reducible rfl)) ?_
  simp only [Act.put, zA, zB, zC]
  refine lint_pure 17 _ _ (.int .u32 (q : Int)) rfl rfl rfl rfl rfl (fun w0 hb0 => by unfold mkOp; go_simp; all_goals (with_reducible rfl)) ?_
  simp only [Act.put, zA, zB, zC]
  refine lint_pure 18 _ _ (.pointer (some ⟨b, 0, none⟩)) rfl rfl rfl rfl rfl (fun w0 hb0 => by unfold mkOp; go_simp; all_goals (with_reducible rfl)) ?_
  simp only [Act.put, zA, zB, zC]
  refine lint_pure 19 _ _ (.pointer (some ⟨b, 0, none⟩)) rfl rfl rfl rfl rfl (fun w0 hb0 => by unfold mkOp; go_simp; all_goals (with_reducible rfl)) ?_
  simp only [Act.put, zA, zB, zC]
  refine lint_pure 20 _ _ (.pointer (some ⟨b, q, none⟩)) rfl rfl rfl rfl rfl (fun w0 hb0 => by unfold mkOp; go_simp; all_goals (with_reducible rfl)) ?_
  simp only [Act.put, zA, zB, zC]
  refine lint_pure 21 _ _ (.int .u8 (q1 : Int)) rfl rfl rfl rfl rfl (fun w0 hb0 => by have c9 := CQ.out w0 hb0; unfold mkOp; go_simp; all_goals (with_reducible rfl)) ?_
  simp only [Act.put, zA, zB, zC]
  refine lint_pure 22 _ _ (.int .u32 (q1 : Int)) rfl rfl rfl rfl rfl (fun w0 hb0 => by unfold mkOp; go_simp; all_goals (with_reducible rfl)) ?_
  simp only [Act.put, zA, zB, zC]
  refine lint_pure 23 _ _ (.int .u32 (q2 : Int)) rfl rfl rfl rfl rfl (fun w0 hb0 => by unfold mkOp; go_simp; all_goals (with_reducible rfl)) ?_
  simp only [Act.put, zA, zB, zC]
  refine lint_pure 24 _ _ (.int .u32 (o1 : Int)) rfl rfl rfl rfl rfl (fun w0 hb0 => by unfold mkOp; go_simp; all_goals (with_reducible rfl)) ?_
  simp only [Act.put, zA, zB, zC]
  refine lint_pure 25 _ _ (.pointer (some ⟨b, 0, none⟩)) rfl rfl rfl rfl rfl (fun w0 hb0 => by unfold mkOp; go_simp; all_goals (with_reducible rfl)) ?_
  simp only [Act.put, zA, zB, zC]
  refine lint_pure 26 _ _ (.int .u32 (x : Int)) rfl rfl rfl rfl rfl (fun w0 hb0 => by unfold mkOp; go_simp; all_goals (with_reducible rfl)) ?_
  simp only [Act.put, zA, zB, zC]
  refine lint_pure 27 _ _ (.int .u32 (rr : Int)) rfl rfl rfl rfl rfl (fun w0 hb0 => by unfold mkOp; go_simp; all_goals (with_reducible rfl)) ?_
  simp only [Act.put, zA, zB, zC]
  refine lint_pure 28 _ _ (.int .u32 (r : Int)) rfl rfl rfl rfl rfl (fun w0 hb0 => by unfold mkOp; go_simp; all_goals (with_reducible rfl)) ?_
  simp only [Act.put, zA, zB, zC]
  refine lint_pure 29 _ _ (.pointer (some ⟨b, 0, none⟩)) rfl rfl rfl rfl rfl (fun w0 hb0 => by unfold mkOp; go_simp; all_goals (with_reducible rfl)) ?_
  simp only [Act.put, zA, zB, zC]
  refine lint_pure 30 _ _ (.pointer (some ⟨b, 0, none⟩)) rfl rfl rfl rfl rfl (fun w0 hb0 => by unfold mkOp; go_simp; all_goals (with_reducible rfl)) ?_
  simp only [Act.put, zA, zB, zC]
  refine lint_pure 31 _ _ (.pointer (some ⟨b, r, none⟩)) rfl rfl rfl rfl rfl (fun w0 hb0 => by unfold mkOp; go_simp; all_goals (with_reducible rfl)) ?_
  simp only [Act.put, zA, zB, zC]
  refine lint_pure 32 _ _ (.int .u8 (r1 : Int)) rfl rfl rfl rfl rfl (fun w0 hb0 => by have c9 := CR.out w0 hb0; unfold mkOp; go_simp; all_goals (with_reducible rfl)) ?_
  simp only [Act.put, zA, zB, zC]
  refine lint_pure 33 _ _ (.int .u32 (r1 : Int)) rfl rfl rfl rfl rfl (fun w0 hb0 => by unfold mkOp; go_simp; all_goals (with_reducible rfl)) ?_
  simp only [Act.put, zA, zB, zC]
  refine lint_pure 34 _ _ (.int .u32 (r2 : Int)) rfl rfl rfl rfl rfl (fun w0 hb0 => by unfold mkOp; go_simp; all_goals (with_reducible rfl)) ?_
  simp only [Act.put, zA, zB, zC]
  refine lint_pure 35 _ _ (.int .u32 (o2 : Int)) rfl rfl rfl rfl rfl (fun w0 hb0 => by unfold mkOp; go_simp; all_goals (with_reducible rfl)) ?_
  simp only [Act.put, zA, zB, zC]
  refine lint_pure 36 _ _ (.pointer (some ⟨b, 0, none⟩)) rfl rfl rfl rfl rfl (fun w0 hb0 => by unfold mkOp; go_simp; all_goals (with_reducible rfl)) ?_
  simp only [Act.put, zA, zB, zC]
  refine lint_pure 37 _ _ (.int .u32 (x : Int)) rfl rfl rfl rfl rfl (fun w0 hb0 => by unfold mkOp; go_simp; all_goals (with_reducible rfl)) ?_
  simp only [Act.put, zA, zB, zC]
  refine lint_pure 38 _ _ (.int .u32 (s : Int)) rfl rfl rfl rfl rfl (fun w0 hb0 => by unfold mkOp; go_simp; all_goals (with_reducible rfl)) ?_
  simp only [Act.put, zA, zB, zC]
  refine lint_pure 39 _ _ (.pointer (some ⟨b, 0, none⟩)) rfl rfl rfl rfl rfl (fun w0 hb0 => by unfold mkOp; go_simp; all_goals (with_reducible rfl)) ?_
  simp only [Act.put, zA, zB, zC]
  refine lint_pure 40 _ _ (.pointer (some ⟨b, 0, none⟩)) rfl rfl rfl rfl rfl (fun w0 hb0 => by unfold mkOp; go_simp; all_goals (with_reducible rfl)) ?_
  simp only [Act.put, zA, zB, zC]
  refine lint_pure 41 _ _ (.pointer (some ⟨b, s, none⟩)) rfl rfl rfl rfl rfl (fun w0 hb0 => by unfold mkOp; go_simp; all_goals (with_reducible rfl)) ?_
  simp only [Act.put, zA, zB, zC]
  refine lint_pure 42 _ _ (.int .u8 (s1 : Int)) rfl rfl rfl rfl rfl (fun w0 hb0 => by have c9 := CS.out w0 hb0; unfold mkOp; go_simp; all_goals (with_reducible rfl)) ?_
  simp only [Act.put, zA, zB, zC]
  refine lint_pure 43 _ _ (.int .u32 (s1 : Int)) rfl rfl rfl rfl rfl (fun w0 hb0 => by unfold mkOp; go_simp; all_goals (with_reducible rfl)) ?_
  simp only [Act.put, zA, zB, zC]
  refine lint_pure 44 _ _ (.int .u32 (o3 : Int)) rfl rfl rfl rfl rfl (fun w0 hb0 => by unfold mkOp; go_simp; all_goals (with_reducible rfl)) ?_
  simp only [Act.put, zA, zB, zC]
  refine lint_pure 4 _ _ (.int .u32 (o3 : Int)) rfl rfl rfl rfl rfl (fun w0 hb0 => by unfold mkOp; go_simp; all_goals (with_reducible rfl)) ?_
  simp only [Act.put, zA, zB, zC]
  refine lint_end ?_
  go_wp2
  go_ret
  obtain rfl := HO.out
  exact ⟨rfl, Bw0.drew⟩
end Go.Proofs.Ytclbfbkbmiijnaa

/- The program's AES: what a round does to a state. -/
namespace Go.Proofs.Ytclbfbkbmiijnaa
open Go.RowKit Go.Deep
set_option linter.unusedSimpArgs false
set_option linter.unusedVariables false

theorem arrSt : IsArr Try.prog 104 4 := ⟨by kernel_rfl, by kernel_rfl⟩
theorem zeroSt : (Try.prog.info? 104).map (fun i => i.zero) = some (some (.agg (arrOf 4 (cF .u32 fun _ => 0)))) := by kernel_rfl
theorem ea_storeC {P : Program} {ops : Array Oper} {Q : Exit → Act → World → Prop} {r : List (Nat × Option (List Nat))} {a : Act} {w : World} {o : Oper} {i : Nat} {R : Nat → World → Prop} {ty : TypeId} {x y : Operand} {t t' : TypeId} {b j z n : Nat} {k : IntKind} {f : Nat → Nat} (g : Nat → Nat) (hr : writers r = []) (ho : ops[i]? = some o) (hd : o.dst = none) (hop : o.op = .store ty x y) (ht : o.type = t) (hw : Region.wanted o (yielded ops a.tmps) = true)
    (hrow : w.rowIs b t' n (cF k f)) (hi : j < n) (hx : a.eval x = .pointer (some ⟨b, j, none⟩)) (hy : a.eval y = .int k (z : Int)) (hs : (P.info? ty).map (fun i => i.size) = some 1) (hg : ∀ k, k < n → g k = if k = j then z else f k)
    (h : ∀ w', w'.rowIs b t' n (cF k g) → w.grownBy w' (some b) → LinS P ops Q r Any a w') : LinS P ops Q ((i, none) :: r) R a w :=
  lins_store _ t _ ho hd hop ht hw (exec_store_cell (P := P) a.eval ty x y t hrow hx hy hs rfl rfl hi) Any (fun c hc => by rw [hr] at hc; cases hc) (h _ (cF_set hrow j z hg) (grownBy_set _ _ _ _))
theorem cF_cell {w : World} {b n : Nat} {t : TypeId} {k : IntKind} {f : Nat → Nat} (h : w.rowIs b t n (cF k f)) (j : Nat) (hj : j < n) {x : Nat} (hx : f j = x) : w.cell? ⟨b, j, none⟩ = some (.int k (x : Int)) := by
  subst hx
  exact h.cell hj
theorem upN_stepC (G A : Nat → Nat) (n z m : Nat) (h : G n = z) (j : Nat) (_ : j < m) : upN G A (n + 1) j = if j = n then z else upN G A n j := by
  unfold upN
  by_cases e : j = n
  · rw [if_pos (by omega), if_pos e, e, h]
  · rw [if_neg e]
    by_cases h2 : j < n
    · rw [if_pos h2, if_pos (by omega)]
    · rw [if_neg h2, if_neg (by omega)]
theorem cF_all {w : World} {b n : Nat} {t : TypeId} {k : IntKind} {G A : Nat → Nat} (h : w.rowIs b t n (cF k (upN G A n))) : w.rowIs b t n (cF k G) := h.congr fun j hj => by
  unfold cF upN
  rw [if_pos hj]
theorem wd_ark (A W : Nat → Nat) (hA : ∀ j, A j < 256) (hW : ∀ j, W j < 256) (k c : Nat) : wd (arkN A W k) c = wd A c ^^^ wd W (4 * k + c) := by
  unfold wd arkN
  rw [w4_xor (hA _) (hA _) (hA _) (hW _) (hW _) (hW _), show 4 * (4 * k + c) = 16 * k + 4 * c by omega]
  rfl
/-- The rows shifted. -/
def shR (A : Nat → Nat) (j : Nat) : Nat := A (4 * ((j / 4 + j % 4) % 4) + j % 4)
theorem shR_lt (A : Nat → Nat) (h : ∀ j, A j < 256) (j : Nat) : shR A j < 256 := h _
theorem shR_at (A : Nat → Nat) (c r : Nat) (hr : r < 4) : shR A (4 * c + r) = A (4 * ((c + r) % 4) + r) := by
  unfold shR
  rw [show (4 * c + r) / 4 = c by omega, show (4 * c + r) % 4 = r by omega]
theorem mixN_at (A : Nat → Nat) (hA : ∀ j, A j < 256) (c r : Nat) (hr : r < 4) : mixN A (4 * c + r) = ((xtN (A (4 * c + r) ^^^ A (4 * c + (r + 1) % 4)) ^^^ A (4 * c + (r + 1) % 4)) ^^^ A (4 * c + (r + 2) % 4)) ^^^ A (4 * c + (r + 3) % 4) := by
  unfold mixN
  rw [show (4 * c + r) / 4 = c by omega, show (4 * c + r) % 4 = r by omega, gfm_two _ (hA _), gfm_three _ (hA _), xt_lin _ _ (hA _) (hA _)]
  generalize xtN (A (4 * c + r)) = p
  generalize xtN (A (4 * c + (r + 1) % 4)) = q
  generalize A (4 * c + (r + 1) % 4) = s
  generalize A (4 * c + (r + 2) % 4) = t
  generalize A (4 * c + (r + 3) % 4) = u
  ac_rfl
set_option maxHeartbeats 4000000 in
set_option maxRecDepth 20000 in
theorem addKey_any (b : Nat) (F : Nat → Value) (A W : Nat → Nat) (k : Nat) (w : World) (hR : w.rowIs b 99 316 F) (hF : ∀ j, j < 60 → F (256 + j) = .int .u32 ((wd W j : Nat) : Int)) (hA : ∀ j, A j < 256) (hW : ∀ j, W j < 256) (hk : k < 15) : Calls Try.prog 76 #[.pointer (some ⟨b, 0, none⟩), .agg (arrOf 4 (cF .u32 (wd A))), .int .i64 (k : Int)] w fun e w' => e = .returned (.agg (arrOf 4 (cF .u32 (wd (arkN A W k))))) ∧ Below w.heap.size w w' := by
  have Bw0 := Below.refl w.heap.size w
  have HGS : Hid (∀ wq : World, Below w.heap.size w wq → w.heap.size ≤ wq.heap.size) := Lib.hid fun wq h => h.size
  have HR := Lib.hid hR
  have HF := Lib.hid hF
  have HA := Lib.hid hA
  have HW := Lib.hid hW
  have HK := Lib.hid hk
  obtain ⟨G, hG⟩ : ∃ G, G = wd (arkN A W k) := ⟨_, rfl⟩
  rw [← hG]
  have HG := Lib.hid hG
  clear hR hF hA hW hk hG
  go_enter Try.func76, Try.ntmps76
  go_wp2_with (first
    | (have hgo := Bw0; clear hgo
       refine wpList_box_row rfl 104 (.tmp 1) rfl 4 (cF .u32 (wd A)) rfl ?_
       intro b_t4 w1 lk r_t4 kk
       have l_t4 := zrl HGS Bw0 lk
       have Bw1 := zbt HGS Bw0 kk
       clear Bw0 kk lk)
    | (have hgo := Bw1; clear hgo
       refine wpList_alloc_row rfl 104 rfl 4 (cF .u32 fun _ => 0) zeroSt ?_
       intro b_t6 w2 lk r_t6 kk
       have n_t4_t6 := zrn r_t4 lk
       have l_t6 := zrl HGS Bw1 lk
       replace r_t4 := zrb r_t4 kk
       have Bw2 := zbt HGS Bw1 kk
       clear Bw1 kk lk))
  go_loopw [8] (fun iv wr => ∃ i : Nat, i ≤ 4 ∧ iv = .int .i64 (i : Int) ∧ wr.rowIs b_t4 104 4 (cF .u32 (upN G (wd A) i)) ∧ wr.rowIs b_t6 104 4 (cF .u32 fun _ => 0) ∧ Below w.heap.size w wr) (fun iv _ => 4 - (intOf iv).toNat)
  case atStart => exact ⟨0, by decide, rfl, by rw [upN_zero]; exact r_t4, r_t6, Bw2⟩
  case round =>
    clear r_t4 r_t6 Bw2
    obtain ⟨i, hi, rfl, r_t4, r_t6, Bw0⟩ := hrel
    by_cases hlt : i < 4
    · have hiI : 0 ≤ (i : Int) ∧ (i : Int) < 4 := by omega
      have HI := Lib.hid hlt
      have hk := HK.out
      obtain ⟨m, hm⟩ := nat_var (4 * k)
      obtain ⟨q, hq⟩ := nat_var (m + i)
      have hw1 : IntKind.i64.wrap (4 * (k : Int)) = (m : Int) := by rw [IntWalk.i64_in _ (by omega)]; omega
      have hw2 : IntKind.i64.wrap ((m : Int) + (i : Int)) = (q : Int) := by rw [IntWalk.i64_in _ (by omega)]; omega
      have hqI : 0 ≤ (q : Int) ∧ (q : Int) < 60 := by omega
      obtain ⟨x, hx⟩ := nat_var (wd A i)
      obtain ⟨y, hy⟩ := nat_var (wd W q)
      obtain ⟨z, hz⟩ := nat_var (x ^^^ y)
      have e1 : bits .xor .u32 (x : Int) (y : Int) = (z : Int) := by rw [hz]; exact bits_xor32 x y (by rw [hx]; exact wd_lt HA.out _) (by rw [hy]; exact wd_lt HW.out _)
      have HZ : Hid (G i = z) := Lib.hid (by rw [HG.out, wd_ark A W HA.out HW.out, hz, hx, hy, hq, hm])
      replace r_t4 := r_t4.drew
      replace r_t6 := r_t6.drew
      replace Bw0 := Bw0.drew
      have c1 := cF_cell r_t4 i hlt (x := x) (by rw [upN_at, hx])
      have c2 : wr.drew.cell? ⟨b, 256 + q, none⟩ = some (.int .u32 (y : Int)) := by rw [hy, ← HF.out q (by omega)]; exact (zrb HR.out Bw0).cell (by omega)
      clear hx hy hz hi hlt hm hq hk
      go_wp2
      refine ea_start [(0, some [14]), (1, some [14]), (2, some [14]), (3, some [14]), (4, some [14]), (5, some [14]), (6, some [14]), (7, some [14]), (8, some [14]), (9, some [14]), (10, some [14]), (11, some [14]), (12, some [14]), (13, some [14]), (14, none)] (by kernel_rfl) (by kernel_rfl) (by decide) (by kernel_rfl) (fun d _ _ _ _ h => by cases d <;> exact h) ?_
      refine ea_rd 11 (.int .i64 (i : Int)) rfl rfl rfl rfl rfl (by unfold mkOp; go_simp; all_goals (with_reducible rfl)) ?_
      simp only [Act.put, zA, zB, zC]
      refine ea_rd 12 (.pointer (some ⟨b_t4, i, none⟩)) rfl rfl rfl rfl rfl (by unfold mkOp; go_simp; all_goals (with_reducible rfl)) ?_
      simp only [Act.put, zA, zB, zC]
      refine ea_rd 13 (.int .u32 (x : Int)) rfl rfl rfl rfl rfl (by have c9 := c1; unfold mkOp; go_simp; all_goals (with_reducible rfl)) ?_
      simp only [Act.put, zA, zB, zC]
      refine ea_rd 14 (.pointer (some ⟨b, 0, none⟩)) rfl rfl rfl rfl rfl (by unfold mkOp; go_simp; all_goals (with_reducible rfl)) ?_
      simp only [Act.put, zA, zB, zC]
      refine ea_rd 15 (.int .i64 (k : Int)) rfl rfl rfl rfl rfl (by unfold mkOp; go_simp; all_goals (with_reducible rfl)) ?_
      simp only [Act.put, zA, zB, zC]
      refine ea_rd 16 (.int .i64 (m : Int)) rfl rfl rfl rfl rfl (by unfold mkOp; go_simp; all_goals (with_reducible rfl)) ?_
      simp only [Act.put, zA, zB, zC]
      refine ea_rd 17 (.int .i64 (i : Int)) rfl rfl rfl rfl rfl (by unfold mkOp; go_simp; all_goals (with_reducible rfl)) ?_
      simp only [Act.put, zA, zB, zC]
      refine ea_rd 18 (.int .i64 (q : Int)) rfl rfl rfl rfl rfl (by unfold mkOp; go_simp; all_goals (with_reducible rfl)) ?_
      simp only [Act.put, zA, zB, zC]
      refine ea_rd 19 (.pointer (some ⟨b, 0, none⟩)) rfl rfl rfl rfl rfl (by unfold mkOp; go_simp; all_goals (with_reducible rfl)) ?_
      simp only [Act.put, zA, zB, zC]
      refine ea_rd 20 (.pointer (some ⟨b, 256, none⟩)) rfl rfl rfl rfl rfl (by unfold mkOp; go_simp; all_goals (with_reducible rfl)) ?_
      simp only [Act.put, zA, zB, zC]
      refine ea_rd 21 (.pointer (some ⟨b, 256 + q, none⟩)) rfl rfl rfl rfl rfl (by unfold mkOp; go_simp; all_goals (with_reducible rfl)) ?_
      simp only [Act.put, zA, zB, zC]
      refine ea_rd 22 (.int .u32 (y : Int)) rfl rfl rfl rfl rfl (by have c9 := c2; unfold mkOp; go_simp; all_goals (with_reducible rfl)) ?_
      simp only [Act.put, zA, zB, zC]
      refine ea_rd 23 (.int .u32 (z : Int)) rfl rfl rfl rfl rfl (by unfold mkOp; go_simp; all_goals (with_reducible rfl)) ?_
      simp only [Act.put, zA, zB, zC]
      refine ea_rd 24 (.pointer (some ⟨b_t4, i, none⟩)) rfl rfl rfl rfl rfl (by unfold mkOp; go_simp; all_goals (with_reducible rfl)) ?_
      simp only [Act.put, zA, zB, zC]
      refine ea_storeC (upN G (wd A) (i + 1)) rfl rfl rfl rfl rfl rfl r_t4 HI.out rfl rfl (by kernel_rfl) (upN_stepC _ _ i z 4 HZ.out) ?_
      intro w7 q7 g7
      refine le_end ?_
      replace r_t6 := gb_rowIs r_t6 g7 (Ne.symm n_t4_t6)
      have Bw1 := zbg HGS Bw0 g7 l_t4
      clear Bw0 g7 r_t4 e1 c1 c2 hw1 hw2 hqI
      go_wp2
      go_roundw
      case rel => exact ⟨i + 1, HI.out, by have := HI.out; go_num, q7, r_t6, Bw1⟩
      case measure => (have := HI.out; simp [intOf]; try omega)
    · obtain rfl : i = 4 := by omega
      replace r_t4 := cF_all r_t4
      clear hi hlt
      go_wp2_with (first
        | (have hgo := Bw0; clear hgo
           refine wpList_load_as rfl 104 (.tmp 4) rfl 4 (cF .u32 G) arrSt r_t4 rfl (by omega) (fun i hi => by rw [Nat.zero_add]) ?_
           have Bw1 := Bw0
           clear Bw0)
        | (have hgo := Bw1; clear hgo
           refine wpList_store_as rfl 104 (.tmp 6) (.tmp 26) rfl 4 (cF .u32 G) arrSt r_t6 rfl rfl (by omega) (fun _ _ => rfl) (fun i hi => putN_whole hi) ?_
           intro w1 q gk
           replace r_t4 := gb_rowIs r_t4 gk n_t4_t6
           replace r_t6 := q
           have Bw2 := zbg HGS Bw1 gk l_t6
           clear Bw1 gk q))
      exact ret_cell_as _ rfl arrSt r_t6 rfl (by omega) (fun _ _ => rfl) rfl ⟨rfl, Bw2⟩
set_option maxHeartbeats 4000000 in
set_option maxRecDepth 20000 in
theorem subst_any (b : Nat) (F : Nat → Value) (A : Nat → Nat) (w : World) (hR : w.rowIs b 99 316 F) (hF : ∀ j, j < 256 → F j = .int .u8 ((boxN j : Nat) : Int)) (hA : ∀ j, A j < 256) : Calls Try.prog 78 #[.pointer (some ⟨b, 0, none⟩), .agg (arrOf 4 (cF .u32 (wd A)))] w fun e w' => e = .returned (.agg (arrOf 4 (cF .u32 (wd (fun j => boxN (A j)))))) ∧ Below w.heap.size w w' := by
  have Bw0 := Below.refl w.heap.size w
  have HGS : Hid (∀ wq : World, Below w.heap.size w wq → w.heap.size ≤ wq.heap.size) := Lib.hid fun wq h => h.size
  have HR := Lib.hid hR
  have HF := Lib.hid hF
  have HA := Lib.hid hA
  obtain ⟨G, hG⟩ : ∃ G, G = wd (fun j => boxN (A j)) := ⟨_, rfl⟩
  rw [← hG]
  have HG := Lib.hid hG
  clear hR hF hA hG
  go_enter Try.func78, Try.ntmps78
  go_wp2_with (first
    | (have hgo := Bw0; clear hgo
       refine wpList_box_row rfl 104 (.tmp 1) rfl 4 (cF .u32 (wd A)) rfl ?_
       intro b_t3 w1 lk r_t3 kk
       have l_t3 := zrl HGS Bw0 lk
       have Bw1 := zbt HGS Bw0 kk
       clear Bw0 kk lk)
    | (have hgo := Bw1; clear hgo
       refine wpList_alloc_row rfl 104 rfl 4 (cF .u32 fun _ => 0) zeroSt ?_
       intro b_t4 w2 lk r_t4 kk
       have n_t3_t4 := zrn r_t3 lk
       have l_t4 := zrl HGS Bw1 lk
       replace r_t3 := zrb r_t3 kk
       have Bw2 := zbt HGS Bw1 kk
       clear Bw1 kk lk)
    | (have hgo := Bw2; clear hgo
       refine wpList_load_as rfl 104 (.tmp 3) rfl 4 (cF .u32 (wd A)) arrSt r_t3 rfl (by omega) (fun i hi => by rw [Nat.zero_add]) ?_
       have Bw3 := Bw2
       clear Bw2))
  go_loopw [8] (fun iv wr => ∃ i : Nat, i ≤ 4 ∧ iv = .int .i64 (i : Int) ∧ wr.rowIs b_t3 104 4 (cF .u32 (upN G (wd A) i)) ∧ wr.rowIs b_t4 104 4 (cF .u32 fun _ => 0) ∧ Below w.heap.size w wr) (fun iv _ => 4 - (intOf iv).toNat)
  case atStart => exact ⟨0, by decide, rfl, by rw [upN_zero]; exact r_t3, r_t4, Bw3⟩
  case round =>
    clear r_t3 r_t4 Bw3
    obtain ⟨i, hi, rfl, r_t3, r_t4, Bw0⟩ := hrel
    by_cases hlt : i < 4
    · have hiI : 0 ≤ (i : Int) ∧ (i : Int) < 4 := by omega
      have HI := Lib.hid hlt
      obtain ⟨x, hx⟩ := nat_var (wd A i)
      obtain ⟨z, hz⟩ := nat_var (G i)
      have HZ : Hid (G i = z) := Lib.hid hz.symm
      have HX : Hid (wd A i = x) := Lib.hid hx.symm
      have HC : Hid (∀ w1, Below w.heap.size w w1 → Calls Try.prog 73 #[.pointer (some ⟨b, 0, none⟩), .int .u32 (x : Int)] w1 fun e w' => e = .returned (.int .u32 (z : Int)) ∧ Below w1.heap.size w1 w') := Lib.hid fun w1 hb => by
        rw [hx, hz, HG.out]
        exact sub_any b F _ _ _ _ w1 (zrb HR.out hb) HF.out (HA.out _) (HA.out _) (HA.out _) (HA.out _)
      clear hx hz hi hlt
      go_wp2_with (first
        | (have hgo := HX; clear hgo
           refine wpList_index_c rfl 104 74 (.tmp 7) (.tmp 8) rfl 4 (by kernel_rfl) _ rfl rfl (by kernel_rfl) rfl rfl HI.out HX.out ?_
           clear HX)
        | (have hgo := Bw0; clear hgo
           go_at_call 73
           refine (HC.out _ Bw0).mono ?_
           rintro e w1 ⟨rfl, kk⟩
           replace r_t3 := zrb r_t3 kk
           replace r_t4 := zrb r_t4 kk
           have Bw1 := zbt HGS Bw0 kk
           clear Bw0 kk)
        | (have hgo := Bw1; clear hgo
           refine wpList_store_c rfl 74 (.tmp 16) (.tmp 15) rfl (upN G (wd A) (i + 1)) r_t3 HI.out rfl rfl (by kernel_rfl) (upN_stepC _ _ i z 4 HZ.out) ?_
           intro w2 q gk
           replace r_t4 := gb_rowIs r_t4 gk (Ne.symm n_t3_t4)
           replace r_t3 := q
           have Bw2 := zbg HGS Bw1 gk l_t3
           clear Bw1 gk q))
      go_roundw
      case rel => exact ⟨i + 1, HI.out, by have := HI.out; go_num, r_t3, r_t4, Bw2⟩
      case measure => (have := HI.out; simp [intOf]; try omega)
    · obtain rfl : i = 4 := by omega
      replace r_t3 := cF_all r_t3
      clear hi hlt
      go_wp2_with (first
        | (have hgo := Bw0; clear hgo
           refine wpList_load_as rfl 104 (.tmp 3) rfl 4 (cF .u32 G) arrSt r_t3 rfl (by omega) (fun i hi => by rw [Nat.zero_add]) ?_
           have Bw1 := Bw0
           clear Bw0)
        | (have hgo := Bw1; clear hgo
           refine wpList_store_as rfl 104 (.tmp 4) (.tmp 18) rfl 4 (cF .u32 G) arrSt r_t4 rfl rfl (by omega) (fun _ _ => rfl) (fun i hi => putN_whole hi) ?_
           intro w1 q gk
           replace r_t3 := gb_rowIs r_t3 gk n_t3_t4
           replace r_t4 := q
           have Bw2 := zbg HGS Bw1 gk l_t4
           clear Bw1 gk q))
      exact ret_cell_as _ rfl arrSt r_t4 rfl (by omega) (fun _ _ => rfl) rfl ⟨rfl, Bw2⟩
set_option maxHeartbeats 4000000 in
set_option maxRecDepth 20000 in
theorem shift_any (A : Nat → Nat) (w : World) (hA : ∀ j, A j < 256) : Calls Try.prog 79 #[.agg (arrOf 4 (cF .u32 (wd A)))] w fun e w' => e = .returned (.agg (arrOf 4 (cF .u32 (wd (shR A))))) ∧ Below w.heap.size w w' := by
  have Bw0 := Below.refl w.heap.size w
  have HGS : Hid (∀ wq : World, Below w.heap.size w wq → w.heap.size ≤ wq.heap.size) := Lib.hid fun wq h => h.size
  have HA := Lib.hid hA
  obtain ⟨G, hG⟩ : ∃ G, G = wd (shR A) := ⟨_, rfl⟩
  rw [← hG]
  have HG := Lib.hid hG
  clear hA hG
  go_enter Try.func79, Try.ntmps79
  go_wp2_with (first
    | (have hgo := Bw0; clear hgo
       refine wpList_box_row rfl 104 (.tmp 0) rfl 4 (cF .u32 (wd A)) rfl ?_
       intro b_t1 w1 lk r_t1 kk
       have l_t1 := zrl HGS Bw0 lk
       have Bw1 := zbt HGS Bw0 kk
       clear Bw0 kk lk)
    | (have hgo := Bw1; clear hgo
       refine wpList_alloc_row rfl 104 rfl 4 (cF .u32 fun _ => 0) zeroSt ?_
       intro b_t2 w2 lk r_t2 kk
       have n_t1_t2 := zrn r_t1 lk
       have l_t2 := zrl HGS Bw1 lk
       replace r_t1 := zrb r_t1 kk
       have Bw2 := zbt HGS Bw1 kk
       clear Bw1 kk lk)
    | (have hgo := Bw2; clear hgo
       refine wpList_alloc_row rfl 104 rfl 4 (cF .u32 fun _ => 0) zeroSt ?_
       intro b_t3 w3 lk r_t3 kk
       have n_t1_t3 := zrn r_t1 lk
       have n_t2_t3 := zrn r_t2 lk
       have l_t3 := zrl HGS Bw2 lk
       replace r_t1 := zrb r_t1 kk
       replace r_t2 := zrb r_t2 kk
       have Bw3 := zbt HGS Bw2 kk
       clear Bw2 kk lk))
  go_loopw [5] (fun iv wr => ∃ i : Nat, i ≤ 4 ∧ iv = .int .i64 (i : Int) ∧ wr.rowIs b_t1 104 4 (cF .u32 (wd A)) ∧ wr.rowIs b_t2 104 4 (cF .u32 fun _ => 0) ∧ wr.rowIs b_t3 104 4 (cF .u32 (upN G (fun _ => 0) i)) ∧ Below w.heap.size w wr) (fun iv _ => 4 - (intOf iv).toNat)
  case atStart => exact ⟨0, by decide, rfl, r_t1, r_t2, by rw [upN_zero]; exact r_t3, Bw3⟩
  case round =>
    clear r_t1 r_t2 r_t3 Bw3
    obtain ⟨i, hi, rfl, r_t1, r_t2, r_t3, Bw0⟩ := hrel
    by_cases hlt : i < 4
    · have hiI : 0 ≤ (i : Int) ∧ (i : Int) < 4 := by omega
      have HI := Lib.hid hlt
      replace r_t1 := r_t1.drew
      replace r_t2 := r_t2.drew
      replace r_t3 := r_t3.drew
      replace Bw0 := Bw0.drew
      obtain ⟨x0, hx0⟩ := nat_var (wd A i)
      have c0 := cF_cell r_t1 i hlt (x := x0) hx0.symm
      obtain ⟨j1, hj1⟩ := nat_var (i + 1)
      obtain ⟨k1, hk1⟩ := nat_var (j1 % 4)
      have u1 : IntKind.i64.wrap ((i : Int) + 1) = (j1 : Int) := by rw [IntWalk.i64_in _ (by omega)]; omega
      have v1 : (j1 : Int).tmod 4 = (k1 : Int) := by rw [Int.tmod_eq_emod_of_nonneg (by omega)]; omega
      have p1 : IntKind.i64.wrap ((j1 : Int).tmod 4) = (k1 : Int) := by rw [v1, IntWalk.i64_in _ (by omega)]
      have q1 : 0 ≤ (k1 : Int) ∧ (k1 : Int) < 4 := by omega
      obtain ⟨x1, hx1⟩ := nat_var (wd A k1)
      have c1 := cF_cell r_t1 k1 (by omega) (x := x1) hx1.symm
      obtain ⟨j2, hj2⟩ := nat_var (i + 2)
      obtain ⟨k2, hk2⟩ := nat_var (j2 % 4)
      have u2 : IntKind.i64.wrap ((i : Int) + 2) = (j2 : Int) := by rw [IntWalk.i64_in _ (by omega)]; omega
      have v2 : (j2 : Int).tmod 4 = (k2 : Int) := by rw [Int.tmod_eq_emod_of_nonneg (by omega)]; omega
      have p2 : IntKind.i64.wrap ((j2 : Int).tmod 4) = (k2 : Int) := by rw [v2, IntWalk.i64_in _ (by omega)]
      have q2 : 0 ≤ (k2 : Int) ∧ (k2 : Int) < 4 := by omega
      obtain ⟨x2, hx2⟩ := nat_var (wd A k2)
      have c2 := cF_cell r_t1 k2 (by omega) (x := x2) hx2.symm
      obtain ⟨j3, hj3⟩ := nat_var (i + 3)
      obtain ⟨k3, hk3⟩ := nat_var (j3 % 4)
      have u3 : IntKind.i64.wrap ((i : Int) + 3) = (j3 : Int) := by rw [IntWalk.i64_in _ (by omega)]; omega
      have v3 : (j3 : Int).tmod 4 = (k3 : Int) := by rw [Int.tmod_eq_emod_of_nonneg (by omega)]; omega
      have p3 : IntKind.i64.wrap ((j3 : Int).tmod 4) = (k3 : Int) := by rw [v3, IntWalk.i64_in _ (by omega)]
      have q3 : 0 ≤ (k3 : Int) ∧ (k3 : Int) < 4 := by omega
      obtain ⟨x3, hx3⟩ := nat_var (wd A k3)
      have c3 := cF_cell r_t1 k3 (by omega) (x := x3) hx3.symm
      have hA := HA.out
      obtain ⟨y0, hy0⟩ := nat_var (w4 (A (4 * i)) 0 0 0)
      obtain ⟨y1, hy1⟩ := nat_var (w4 0 (A (4 * k1 + 1)) 0 0)
      obtain ⟨y2, hy2⟩ := nat_var (w4 0 0 (A (4 * k2 + 2)) 0)
      obtain ⟨y3, hy3⟩ := nat_var (w4 0 0 0 (A (4 * k3 + 3)))
      obtain ⟨z1, hz1⟩ := nat_var (w4 (A (4 * i)) (A (4 * k1 + 1)) 0 0)
      obtain ⟨z2, hz2⟩ := nat_var (w4 (A (4 * i)) (A (4 * k1 + 1)) (A (4 * k2 + 2)) 0)
      obtain ⟨z3, hz3⟩ := nat_var (w4 (A (4 * i)) (A (4 * k1 + 1)) (A (4 * k2 + 2)) (A (4 * k3 + 3)))
      have OR := w4_or0 (hA (4 * i)) (hA (4 * k1 + 1)) (hA (4 * k2 + 2)) (hA (4 * k3 + 3))
      have o0 : (0 : Nat) < 256 := by decide
      have m0 : bits .and .u32 (x0 : Int) 4278190080 = (y0 : Int) := (bits_and32 x0 4278190080 (by rw [hx0]; exact wd_lt hA _) (by decide)).trans (by rw [hx0, hy0]; unfold wd; rw [(w4_masks (hA _) (hA _) (hA _) (hA _)).1])
      have m1 : bits .and .u32 (x1 : Int) 16711680 = (y1 : Int) := (bits_and32 x1 16711680 (by rw [hx1]; exact wd_lt hA _) (by decide)).trans (by rw [hx1, hy1]; unfold wd; rw [(w4_masks (hA _) (hA _) (hA _) (hA _)).2.1])
      have m2 : bits .and .u32 (x2 : Int) 65280 = (y2 : Int) := (bits_and32 x2 65280 (by rw [hx2]; exact wd_lt hA _) (by decide)).trans (by rw [hx2, hy2]; unfold wd; rw [(w4_masks (hA _) (hA _) (hA _) (hA _)).2.2.1])
      have m3 : bits .and .u32 (x3 : Int) 255 = (y3 : Int) := (bits_and32 x3 255 (by rw [hx3]; exact wd_lt hA _) (by decide)).trans (by rw [hx3, hy3]; unfold wd; rw [(w4_masks (hA _) (hA _) (hA _) (hA _)).2.2.2])
      have n1 : bits .or .u32 (y0 : Int) (y1 : Int) = (z1 : Int) := by rw [bits_or32 y0 y1 (by rw [hy0]; exact w4_lt (hA _) o0 o0 o0) (by rw [hy1]; exact w4_lt o0 (hA _) o0 o0), hy0, hy1, OR.1, hz1]
      have n2 : bits .or .u32 (z1 : Int) (y2 : Int) = (z2 : Int) := by rw [bits_or32 z1 y2 (by rw [hz1]; exact w4_lt (hA _) (hA _) o0 o0) (by rw [hy2]; exact w4_lt o0 o0 (hA _) o0), hz1, hy2, OR.2.1, hz2]
      have n3 : bits .or .u32 (z2 : Int) (y3 : Int) = (z3 : Int) := by rw [bits_or32 z2 y3 (by rw [hz2]; exact w4_lt (hA _) (hA _) (hA _) o0) (by rw [hy3]; exact w4_lt o0 o0 o0 (hA _)), hz2, hy3, OR.2.2, hz3]
      have HZ : Hid (G i = z3) := Lib.hid (by
        rw [HG.out, hz3]
        unfold wd
        refine w4_ext ?_ ?_ ?_ ?_
        · have h := shR_at A i 0 (by decide)
          rw [Nat.add_zero, Nat.add_zero, Nat.add_zero, Nat.mod_eq_of_lt hlt] at h
          exact h
        · rw [shR_at A i 1 (by decide), hk1, hj1]
        · rw [shR_at A i 2 (by decide), hk2, hj2]
        · rw [shR_at A i 3 (by decide), hk3, hj3])
      clear hx0 hx1 hx2 hx3 hy0 hy1 hy2 hy3 hz1 hz2 hz3 hj1 hj2 hj3 hk1 hk2 hk3 hA OR o0 hi hlt
      go_wp2
      refine ea_start [(0, some [27]), (1, some [27]), (2, some [27]), (3, some [27]), (4, some [27]), (5, some [27]), (6, some [27]), (7, some [27]), (8, some [27]), (9, some [27]), (10, some [27]), (11, some [27]), (12, some [27]), (13, some [27]), (14, some [27]), (15, some [27]), (16, some [27]), (17, some [27]), (18, some [27]), (19, some [27]), (20, some [27]), (21, some [27]), (22, some [27]), (23, some [27]), (24, some [27]), (25, some [27]), (26, some [27]), (27, none)] (by kernel_rfl) (by kernel_rfl) (by decide) (by kernel_rfl) (fun d _ _ _ _ h => by cases d <;> exact h) ?_
      refine ea_rd 8 (.int .i64 (i : Int)) rfl rfl rfl rfl rfl (by unfold mkOp; go_simp; all_goals (with_reducible rfl)) ?_
      simp only [Act.put, zA, zB, zC]
      refine ea_rd 9 (.int .i64 (i : Int)) rfl rfl rfl rfl rfl (by unfold mkOp; go_simp; all_goals (with_reducible rfl)) ?_
      simp only [Act.put, zA, zB, zC]
      refine ea_rd 10 (.pointer (some ⟨b_t1, i, none⟩)) rfl rfl rfl rfl rfl (by unfold mkOp; go_simp; all_goals (with_reducible rfl)) ?_
      simp only [Act.put, zA, zB, zC]
      refine ea_rd 11 (.int .u32 (x0 : Int)) rfl rfl rfl rfl rfl (by have c9 := c0; unfold mkOp; go_simp; all_goals (with_reducible rfl)) ?_
      simp only [Act.put, zA, zB, zC]
      refine ea_rd 12 (.int .u32 (y0 : Int)) rfl rfl rfl rfl rfl (by unfold mkOp; go_simp; all_goals (with_reducible rfl)) ?_
      simp only [Act.put, zA, zB, zC]
      refine ea_rd 13 (.int .i64 (i : Int)) rfl rfl rfl rfl rfl (by unfold mkOp; go_simp; all_goals (with_reducible rfl)) ?_
      simp only [Act.put, zA, zB, zC]
      refine ea_rd 14 (.int .i64 (j1 : Int)) rfl rfl rfl rfl rfl (by unfold mkOp; go_simp; all_goals (with_reducible rfl)) ?_
      simp only [Act.put, zA, zB, zC]
      refine ea_rd 15 (.int .i64 (k1 : Int)) rfl rfl rfl rfl rfl (by unfold mkOp; go_simp; all_goals (with_reducible rfl)) ?_
      simp only [Act.put, zA, zB, zC]
      refine ea_rd 16 (.pointer (some ⟨b_t1, k1, none⟩)) rfl rfl rfl rfl rfl (by unfold mkOp; go_simp; all_goals (with_reducible rfl)) ?_
      simp only [Act.put, zA, zB, zC]
      refine ea_rd 17 (.int .u32 (x1 : Int)) rfl rfl rfl rfl rfl (by have c9 := c1; unfold mkOp; go_simp; all_goals (with_reducible rfl)) ?_
      simp only [Act.put, zA, zB, zC]
      refine ea_rd 18 (.int .u32 (y1 : Int)) rfl rfl rfl rfl rfl (by unfold mkOp; go_simp; all_goals (with_reducible rfl)) ?_
      simp only [Act.put, zA, zB, zC]
      refine ea_rd 19 (.int .u32 (z1 : Int)) rfl rfl rfl rfl rfl (by unfold mkOp; go_simp; all_goals (with_reducible rfl)) ?_
      simp only [Act.put, zA, zB, zC]
      refine ea_rd 20 (.int .i64 (i : Int)) rfl rfl rfl rfl rfl (by unfold mkOp; go_simp; all_goals (with_reducible rfl)) ?_
      simp only [Act.put, zA, zB, zC]
      refine ea_rd 21 (.int .i64 (j2 : Int)) rfl rfl rfl rfl rfl (by unfold mkOp; go_simp; all_goals (with_reducible rfl)) ?_
      simp only [Act.put, zA, zB, zC]
      refine ea_rd 22 (.int .i64 (k2 : Int)) rfl rfl rfl rfl rfl (by unfold mkOp; go_simp; all_goals (with_reducible rfl)) ?_
      simp only [Act.put, zA, zB, zC]
      refine ea_rd 23 (.pointer (some ⟨b_t1, k2, none⟩)) rfl rfl rfl rfl rfl (by unfold mkOp; go_simp; all_goals (with_reducible rfl)) ?_
      simp only [Act.put, zA, zB, zC]
      refine ea_rd 24 (.int .u32 (x2 : Int)) rfl rfl rfl rfl rfl (by have c9 := c2; unfold mkOp; go_simp; all_goals (with_reducible rfl)) ?_
      simp only [Act.put, zA, zB, zC]
      refine ea_rd 25 (.int .u32 (y2 : Int)) rfl rfl rfl rfl rfl (by unfold mkOp; go_simp; all_goals (with_reducible rfl)) ?_
      simp only [Act.put, zA, zB, zC]
      refine ea_rd 26 (.int .u32 (z2 : Int)) rfl rfl rfl rfl rfl (by unfold mkOp; go_simp; all_goals (with_reducible rfl)) ?_
      simp only [Act.put, zA, zB, zC]
      refine ea_rd 27 (.int .i64 (i : Int)) rfl rfl rfl rfl rfl (by unfold mkOp; go_simp; all_goals (with_reducible rfl)) ?_
      simp only [Act.put, zA, zB, zC]
      refine ea_rd 28 (.int .i64 (j3 : Int)) rfl rfl rfl rfl rfl (by unfold mkOp; go_simp; all_goals (with_reducible rfl)) ?_
      simp only [Act.put, zA, zB, zC]
      refine ea_rd 29 (.int .i64 (k3 : Int)) rfl rfl rfl rfl rfl (by unfold mkOp; go_simp; all_goals (with_reducible rfl)) ?_
      simp only [Act.put, zA, zB, zC]
      refine ea_rd 30 (.pointer (some ⟨b_t1, k3, none⟩)) rfl rfl rfl rfl rfl (by unfold mkOp; go_simp; all_goals (with_reducible rfl)) ?_
      simp only [Act.put, zA, zB, zC]
      refine ea_rd 31 (.int .u32 (x3 : Int)) rfl rfl rfl rfl rfl (by have c9 := c3; unfold mkOp; go_simp; all_goals (with_reducible rfl)) ?_
      simp only [Act.put, zA, zB, zC]
      refine ea_rd 32 (.int .u32 (y3 : Int)) rfl rfl rfl rfl rfl (by unfold mkOp; go_simp; all_goals (with_reducible rfl)) ?_
      simp only [Act.put, zA, zB, zC]
      refine ea_rd 33 (.int .u32 (z3 : Int)) rfl rfl rfl rfl rfl (by unfold mkOp; go_simp; all_goals (with_reducible rfl)) ?_
      simp only [Act.put, zA, zB, zC]
      refine ea_rd 34 (.pointer (some ⟨b_t3, i, none⟩)) rfl rfl rfl rfl rfl (by unfold mkOp; go_simp; all_goals (with_reducible rfl)) ?_
      simp only [Act.put, zA, zB, zC]
      refine ea_storeC (upN G (fun _ => 0) (i + 1)) rfl rfl rfl rfl rfl rfl r_t3 HI.out rfl rfl (by kernel_rfl) (upN_stepC _ _ i z3 4 HZ.out) ?_
      intro w7 q7 g7
      refine le_end ?_
      replace r_t1 := gb_rowIs r_t1 g7 n_t1_t3
      replace r_t2 := gb_rowIs r_t2 g7 n_t2_t3
      have Bw1 := zbg HGS Bw0 g7 l_t3
      clear Bw0 g7 r_t3 c0 c1 c2 c3 m0 m1 m2 m3 n1 n2 n3 q1 q2 q3 p1 p2 p3 v1 v2 v3 u1 u2 u3
      go_wp2
      go_roundw
      case rel => exact ⟨i + 1, HI.out, by have := HI.out; go_num, r_t1, r_t2, q7, Bw1⟩
      case measure => (have := HI.out; simp [intOf]; try omega)
    · obtain rfl : i = 4 := by omega
      replace r_t3 := cF_all r_t3
      clear hi hlt
      go_wp2_with (first
        | (have hgo := Bw0; clear hgo
           refine wpList_load_as rfl 104 (.tmp 3) rfl 4 (cF .u32 G) arrSt r_t3 rfl (by omega) (fun i hi => by rw [Nat.zero_add]) ?_
           have Bw1 := Bw0
           clear Bw0)
        | (have hgo := Bw1; clear hgo
           refine wpList_store_as rfl 104 (.tmp 2) (.tmp 36) rfl 4 (cF .u32 G) arrSt r_t2 rfl rfl (by omega) (fun _ _ => rfl) (fun i hi => putN_whole hi) ?_
           intro w1 q gk
           replace r_t1 := gb_rowIs r_t1 gk n_t1_t2
           replace r_t3 := gb_rowIs r_t3 gk (Ne.symm n_t2_t3)
           replace r_t2 := q
           have Bw2 := zbg HGS Bw1 gk l_t2
           clear Bw1 gk q))
      exact ret_cell_as _ rfl arrSt r_t2 rfl (by omega) (fun _ _ => rfl) rfl ⟨rfl, Bw2⟩
set_option maxHeartbeats 4000000 in
set_option maxRecDepth 20000 in
theorem mix_any (A : Nat → Nat) (w : World) (hA : ∀ j, A j < 256) : Calls Try.prog 77 #[.agg (arrOf 4 (cF .u32 (wd A)))] w fun e w' => e = .returned (.agg (arrOf 4 (cF .u32 (wd (mixN A))))) ∧ Below w.heap.size w w' := by
  have Bw0 := Below.refl w.heap.size w
  have HGS : Hid (∀ wq : World, Below w.heap.size w wq → w.heap.size ≤ wq.heap.size) := Lib.hid fun wq h => h.size
  have HA := Lib.hid hA
  obtain ⟨G, hG⟩ : ∃ G, G = wd (mixN A) := ⟨_, rfl⟩
  rw [← hG]
  have HG := Lib.hid hG
  clear hA hG
  go_enter Try.func77, Try.ntmps77
  go_wp2_with (first
    | (have hgo := Bw0; clear hgo
       refine wpList_box_row rfl 104 (.tmp 0) rfl 4 (cF .u32 (wd A)) rfl ?_
       intro b_t1 w1 lk r_t1 kk
       have l_t1 := zrl HGS Bw0 lk
       have Bw1 := zbt HGS Bw0 kk
       clear Bw0 kk lk)
    | (have hgo := Bw1; clear hgo
       refine wpList_alloc_row rfl 104 rfl 4 (cF .u32 fun _ => 0) zeroSt ?_
       intro b_t2 w2 lk r_t2 kk
       have n_t1_t2 := zrn r_t1 lk
       have l_t2 := zrl HGS Bw1 lk
       replace r_t1 := zrb r_t1 kk
       have Bw2 := zbt HGS Bw1 kk
       clear Bw1 kk lk)
    | (have hgo := Bw2; clear hgo
       refine wpList_load_as rfl 104 (.tmp 1) rfl 4 (cF .u32 (wd A)) arrSt r_t1 rfl (by omega) (fun i hi => by rw [Nat.zero_add]) ?_
       have Bw3 := Bw2
       clear Bw2))
  go_loopw [7] (fun iv wr => ∃ i : Nat, i ≤ 4 ∧ iv = .int .i64 (i : Int) ∧ wr.rowIs b_t1 104 4 (cF .u32 (upN G (wd A) i)) ∧ wr.rowIs b_t2 104 4 (cF .u32 fun _ => 0) ∧ Below w.heap.size w wr) (fun iv _ => 4 - (intOf iv).toNat)
  case atStart => exact ⟨0, by decide, rfl, by rw [upN_zero]; exact r_t1, r_t2, Bw3⟩
  case round =>
    clear r_t1 r_t2 Bw3
    obtain ⟨i, hi, rfl, r_t1, r_t2, Bw0⟩ := hrel
    by_cases hlt : i < 4
    · have hiI : 0 ≤ (i : Int) ∧ (i : Int) < 4 := by omega
      have HI := Lib.hid hlt
      have hA := HA.out
      obtain ⟨a0, ha0⟩ := nat_var (A (4 * i))
      obtain ⟨a1, ha1⟩ := nat_var (A (4 * i + 1))
      obtain ⟨a2, ha2⟩ := nat_var (A (4 * i + 2))
      obtain ⟨a3, ha3⟩ := nat_var (A (4 * i + 3))
      have l0 : a0 < 256 := by rw [ha0]; exact hA _
      have l1 : a1 < 256 := by rw [ha1]; exact hA _
      have l2 : a2 < 256 := by rw [ha2]; exact hA _
      have l3 : a3 < 256 := by rw [ha3]; exact hA _
      obtain ⟨x, hx⟩ := nat_var (w4 a0 a1 a2 a3)
      obtain ⟨y, hy⟩ := nat_var (w4 a1 a2 a3 a0)
      obtain ⟨u, hu⟩ := nat_var (w4 (a0 ^^^ a1) (a1 ^^^ a2) (a2 ^^^ a3) (a3 ^^^ a0))
      obtain ⟨v, hv⟩ := nat_var (w4 (xtN (a0 ^^^ a1)) (xtN (a1 ^^^ a2)) (xtN (a2 ^^^ a3)) (xtN (a3 ^^^ a0)))
      obtain ⟨v2, hv2⟩ := nat_var (v ^^^ y)
      obtain ⟨s, hs⟩ := nat_var (w4 a2 a3 a0 a1)
      obtain ⟨v3, hv3⟩ := nat_var (v2 ^^^ s)
      obtain ⟨t, ht⟩ := nat_var (w4 a3 a0 a1 a2)
      obtain ⟨v4, hv4⟩ := nat_var (v3 ^^^ t)
      have HX : Hid (wd A i = x) := Lib.hid (by rw [hx, ha0, ha1, ha2, ha3]; rfl)
      have R1 : Hid (∀ w1, Calls Try.prog 74 #[.int .u32 (x : Int), .int .i64 8] w1 fun e w' => e = .returned (.int .u32 (y : Int)) ∧ w' = w1) := Lib.hid fun w1 => by rw [hx, hy]; exact rotw_8 a0 a1 a2 a3 w1 l0 l1 l2 l3
      have R2 : Hid (∀ w1, Calls Try.prog 74 #[.int .u32 (x : Int), .int .i64 16] w1 fun e w' => e = .returned (.int .u32 (s : Int)) ∧ w' = w1) := Lib.hid fun w1 => by rw [hx, hs]; exact rotw_16 a0 a1 a2 a3 w1 l0 l1 l2 l3
      have R3 : Hid (∀ w1, Calls Try.prog 74 #[.int .u32 (x : Int), .int .i64 24] w1 fun e w' => e = .returned (.int .u32 (t : Int)) ∧ w' = w1) := Lib.hid fun w1 => by rw [hx, ht]; exact rotw_24 a0 a1 a2 a3 w1 l0 l1 l2 l3
      have RD : Hid (∀ w1, Calls Try.prog 83 #[.int .u32 (u : Int)] w1 fun e w' => e = .returned (.int .u32 (v : Int)) ∧ w' = w1) := Lib.hid fun w1 => by rw [hu, hv]; exact doubled_any _ _ _ _ w1 (xor_lt8 l0 l1) (xor_lt8 l1 l2) (xor_lt8 l2 l3) (xor_lt8 l3 l0)
      have X0 : x < 4294967296 := by rw [hx]; exact w4_lt l0 l1 l2 l3
      have X1 : y < 4294967296 := by rw [hy]; exact w4_lt l1 l2 l3 l0
      have X2 : v < 4294967296 := by rw [hv]; exact w4_lt (xtN_lt _) (xtN_lt _) (xtN_lt _) (xtN_lt _)
      have X3 : s < 4294967296 := by rw [hs]; exact w4_lt l2 l3 l0 l1
      have X4 : t < 4294967296 := by rw [ht]; exact w4_lt l3 l0 l1 l2
      have E2 : v2 = w4 (xtN (a0 ^^^ a1) ^^^ a1) (xtN (a1 ^^^ a2) ^^^ a2) (xtN (a2 ^^^ a3) ^^^ a3) (xtN (a3 ^^^ a0) ^^^ a0) := by rw [hv2, hv, hy, w4_xor (xtN_lt _) (xtN_lt _) (xtN_lt _) l2 l3 l0]
      have X5 : v2 < 4294967296 := by rw [E2]; exact w4_lt (xor_lt8 (xtN_lt _) l1) (xor_lt8 (xtN_lt _) l2) (xor_lt8 (xtN_lt _) l3) (xor_lt8 (xtN_lt _) l0)
      have E3 : v3 = w4 (xtN (a0 ^^^ a1) ^^^ a1 ^^^ a2) (xtN (a1 ^^^ a2) ^^^ a2 ^^^ a3) (xtN (a2 ^^^ a3) ^^^ a3 ^^^ a0) (xtN (a3 ^^^ a0) ^^^ a0 ^^^ a1) := by rw [hv3, E2, hs, w4_xor (xor_lt8 (xtN_lt _) l2) (xor_lt8 (xtN_lt _) l3) (xor_lt8 (xtN_lt _) l0) l3 l0 l1]
      have X6 : v3 < 4294967296 := by rw [E3]; exact w4_lt (xor_lt8 (xor_lt8 (xtN_lt _) l1) l2) (xor_lt8 (xor_lt8 (xtN_lt _) l2) l3) (xor_lt8 (xor_lt8 (xtN_lt _) l3) l0) (xor_lt8 (xor_lt8 (xtN_lt _) l0) l1)
      have e1 : bits .xor .u32 (x : Int) (y : Int) = (u : Int) := by rw [bits_xor32 x y X0 X1, hx, hy, hu, w4_xor l1 l2 l3 l2 l3 l0]
      have e2 : bits .xor .u32 (v : Int) (y : Int) = (v2 : Int) := by rw [bits_xor32 v y X2 X1, hv2]
      have e3 : bits .xor .u32 (v2 : Int) (s : Int) = (v3 : Int) := by rw [bits_xor32 v2 s X5 X3, hv3]
      have e4 : bits .xor .u32 (v3 : Int) (t : Int) = (v4 : Int) := by rw [bits_xor32 v3 t X6 X4, hv4]
      have HZ : Hid (G i = v4) := Lib.hid (by
        rw [HG.out, hv4, E3, ht, w4_xor (xor_lt8 (xor_lt8 (xtN_lt _) l2) l3) (xor_lt8 (xor_lt8 (xtN_lt _) l3) l0) (xor_lt8 (xor_lt8 (xtN_lt _) l0) l1) l0 l1 l2]
        have M0 := mixN_at A hA i 0 (by decide)
        have M1 := mixN_at A hA i 1 (by decide)
        have M2 := mixN_at A hA i 2 (by decide)
        have M3 := mixN_at A hA i 3 (by decide)
        simp only [Nat.reduceAdd, Nat.reduceMod, Nat.add_zero, ← ha0, ← ha1, ← ha2, ← ha3] at M0 M1 M2 M3
        unfold wd
        exact w4_ext M0 M1 M2 M3)
      clear ha0 ha1 ha2 ha3 l0 l1 l2 l3 hx hy hu hv hv2 hs hv3 ht hv4 hA X0 X1 X2 X3 X4 X5 X6 E2 E3 hi hlt
      go_wp2_with (first
        | (have hgo := HX; clear hgo
           refine wpList_index_c rfl 104 74 (.tmp 6) (.tmp 7) rfl 4 (by kernel_rfl) _ rfl rfl (by kernel_rfl) rfl rfl HI.out HX.out ?_
           clear HX)
        | (have hgo := R1; clear hgo
           go_at_call 74
           refine (R1.out _).mono ?_
           rintro e w1 ⟨rfl, rfl⟩
           clear R1)
        | (have hgo := RD; clear hgo
           go_at_call 83
           refine (RD.out _).mono ?_
           rintro e w2 ⟨rfl, rfl⟩
           clear RD)
        | (have hgo := R2; clear hgo
           go_at_call 74
           refine (R2.out _).mono ?_
           rintro e w3 ⟨rfl, rfl⟩
           clear R2)
        | (have hgo := R3; clear hgo
           go_at_call 74
           refine (R3.out _).mono ?_
           rintro e w4 ⟨rfl, rfl⟩
           clear R3)
        | (have hgo := Bw0; clear hgo
           refine wpList_store_c rfl 74 (.tmp 26) (.tmp 25) rfl (upN G (wd A) (i + 1)) r_t1 HI.out rfl rfl (by kernel_rfl) (upN_stepC _ _ i v4 4 HZ.out) ?_
           intro w5 q gk
           replace r_t2 := gb_rowIs r_t2 gk (Ne.symm n_t1_t2)
           replace r_t1 := q
           have Bw1 := zbg HGS Bw0 gk l_t1
           clear Bw0 gk q))
      go_roundw
      case rel => exact ⟨i + 1, HI.out, by have := HI.out; go_num, r_t1, r_t2, Bw1⟩
      case measure => (have := HI.out; simp [intOf]; try omega)
    · obtain rfl : i = 4 := by omega
      replace r_t1 := cF_all r_t1
      clear hi hlt
      go_wp2_with (first
        | (have hgo := Bw0; clear hgo
           refine wpList_load_as rfl 104 (.tmp 1) rfl 4 (cF .u32 G) arrSt r_t1 rfl (by omega) (fun i hi => by rw [Nat.zero_add]) ?_
           have Bw1 := Bw0
           clear Bw0)
        | (have hgo := Bw1; clear hgo
           refine wpList_store_as rfl 104 (.tmp 2) (.tmp 28) rfl 4 (cF .u32 G) arrSt r_t2 rfl rfl (by omega) (fun _ _ => rfl) (fun i hi => putN_whole hi) ?_
           intro w1 q gk
           replace r_t1 := gb_rowIs r_t1 gk n_t1_t2
           replace r_t2 := q
           have Bw2 := zbg HGS Bw1 gk l_t2
           clear Bw1 gk q))
      exact ret_cell_as _ rfl arrSt r_t2 rfl (by omega) (fun _ _ => rfl) rfl ⟨rfl, Bw2⟩
end Go.Proofs.Ytclbfbkbmiijnaa

/- The program's AES: a key made ready. -/
namespace Go.Proofs.Ytclbfbkbmiijnaa
open Go.RowKit Go.Deep
set_option linter.unusedSimpArgs false
set_option linter.unusedVariables false

/-- The cells of a cipher: the box, the words. -/
def ciF (X W : Nat → Nat) (j : Nat) : Value := if j < 256 then .int .u8 ((X j : Nat) : Int) else .int .u32 ((W (j - 256) : Nat) : Int)
theorem ci_box (X W : Nat → Nat) (j : Nat) (h : j < 256) : ciF X W j = .int .u8 ((X j : Nat) : Int) := if_pos h
theorem ci_word (X W : Nat → Nat) (j : Nat) : ciF X W (256 + j) = .int .u32 ((W j : Nat) : Int) := by
  unfold ciF
  rw [if_neg (by omega), Nat.add_sub_cancel_left]
theorem ci_congr {w : World} {b : Nat} {t : TypeId} {X V W : Nat → Nat} (h : w.rowIs b t 316 (ciF X V)) (e : ∀ j, j < 60 → V j = W j) : w.rowIs b t 316 (ciF X W) := h.congr fun j hj => by
  unfold ciF
  by_cases h1 : j < 256
  · rw [if_pos h1, if_pos h1]
  · rw [if_neg h1, if_neg h1, e _ (by omega)]
theorem ci_set {w : World} {b : Nat} {t : TypeId} {X W G : Nat → Nat} (h : w.rowIs b t 316 (ciF X W)) (i z : Nat) (hg : ∀ j, j < 60 → G j = if j = i then z else W j) : (w.setCell ⟨b, 256 + i, none⟩ (.int .u32 (z : Int))).rowIs b t 316 (ciF X G) :=
  (h.set (256 + i) _).congr fun j hj => by
    show (if j = 256 + i then _ else _) = _
    unfold ciF
    by_cases h1 : j < 256
    · rw [if_pos h1, if_pos h1, if_neg (by omega)]
    · rw [if_neg h1, if_neg h1, hg _ (by omega)]
      by_cases h2 : j = 256 + i
      · rw [if_pos h2, if_pos (by omega)]
      · rw [if_neg h2, if_neg (by omega)]
theorem ea_storeW {P : Program} {ops : Array Oper} {Q : Exit → Act → World → Prop} {r : List (Nat × Option (List Nat))} {a : Act} {w : World} {o : Oper} {i : Nat} {R : Nat → World → Prop} {ty : TypeId} {x y : Operand} {t t' : TypeId} {b j z : Nat} {X W : Nat → Nat} (G : Nat → Nat) (hr : writers r = []) (ho : ops[i]? = some o) (hd : o.dst = none) (hop : o.op = .store ty x y) (ht : o.type = t) (hw : Region.wanted o (yielded ops a.tmps) = true)
    (hrow : w.rowIs b t' 316 (ciF X W)) (hi : j < 60) (hx : a.eval x = .pointer (some ⟨b, 256 + j, none⟩)) (hy : a.eval y = .int .u32 (z : Int)) (hs : (P.info? ty).map (fun i => i.size) = some 1) (hg : ∀ k, k < 60 → G k = if k = j then z else W k)
    (h : ∀ w', w'.rowIs b t' 316 (ciF X G) → w.grownBy w' (some b) → LinS P ops Q r Any a w') : LinS P ops Q ((i, none) :: r) R a w :=
  lins_store _ t _ ho hd hop ht hw (exec_store_cell (P := P) a.eval ty x y t hrow hx hy hs rfl rfl (by omega)) Any (fun c hc => by rw [hr] at hc; cases hc) (h _ (ci_set hrow j z hg) (grownBy_set _ _ _ _))
theorem wpList_load_w {P : Program} {ops : Array Oper} {rest : List Oper} {o : Oper} {a : Act} {w : World} {Q : Exit → Act → World → Prop} (hgd : o.guard = none) (ty : TypeId) (x : Operand) (ho : o.op = .load ty x) {b i z : Nat} {t : TypeId} {X W : Nat → Nat} (hr : w.rowIs b t 316 (ciF X W)) (hi : i < 60)
    (hx : a.eval x = .pointer (some ⟨b, 256 + i, none⟩)) (hu : (P.underlying ty).map (fun d => match d with | .struct _ | .array _ _ => true | _ => false) = some false) (hz : W i = z) (h : wpList P ops Q rest (a.put o.dst (.int .u32 (z : Int))) w) : wpList P ops Q (o :: rest) a w := by
  subst hz
  refine wpList_value hgd _ ?_ h
  rw [exec_mkOp, ho]
  exact exec_load_cell a.eval ty x o.type hx hu (by rw [← ci_word X W i]; exact hr.cell (by omega))
theorem partsCi : bparts Try.prog 99 = some (arrOf 316 (ciF (fun _ => 0) (fun _ => 0)), [(0, 256), (256, 60)]) := by kernel_rfl
theorem builtCi (X : Nat → Nat) : Try.prog.built 99 [(0, .agg (arrOf 256 (cF .u8 X)))] = some (arrOf 316 (ciF X (fun _ => 0))) := by
  rw [built_of partsCi, fill_row (off := 0) (k := 256) rfl (by decide), Instr.fill]
  refine congrArg some (arrOf_congr fun i hi => ?_)
  unfold putN ciF
  by_cases h : i < 256
  · rw [if_pos (by omega), if_pos h, Nat.sub_zero]
    rfl
  · rw [if_neg (by omega), if_neg h, if_neg h]
theorem numB_wd (l : List UInt8) (i : Nat) : numB (l.drop (4 * i)) 4 = wd (nB l) i := by
  have e : ∀ r, byteAt (l.drop (4 * i)) r = nB l (4 * i + r) := fun r => by
    unfold byteAt nB
    rw [List.getD_eq_getElem?_getD, List.getD_eq_getElem?_getD, List.getElem?_drop]
  have e0 := e 0
  rw [Nat.add_zero] at e0
  show (((0 * 256 + byteAt (l.drop (4 * i)) 0) * 256 + byteAt (l.drop (4 * i)) 1) * 256 + byteAt (l.drop (4 * i)) 2) * 256 + byteAt (l.drop (4 * i)) 3 = _
  rw [e0, e 1, e 2, e 3]
  unfold wd w4
  omega
theorem nB_out (l : List UInt8) (j : Nat) (h : l.length ≤ j) : nB l j = 0 := by
  unfold nB
  rw [List.getD_eq_getElem?_getD, List.getElem?_eq_none h]
  rfl
theorem nB_left (l m : List UInt8) (j : Nat) (h : j < l.length) : nB (l ++ m) j = nB l j := by
  unfold nB
  rw [getD_left l m j h]
theorem nB_right (l m : List UInt8) (j : Nat) : nB (l ++ m) (l.length + j) = nB m j := by
  unfold nB
  rw [List.getD_eq_getElem?_getD, List.getD_eq_getElem?_getD, List.getElem?_append_right (by omega), Nat.add_sub_cancel_left]
theorem wd_out (l : List UInt8) (j : Nat) (h : l.length ≤ 4 * j) : wd (nB l) j = 0 := by
  unfold wd
  rw [nB_out l _ h, nB_out l _ (by omega), nB_out l _ (by omega), nB_out l _ (by omega)]
  rfl
/-- One word more. -/
theorem wd_app (W x : List UInt8) (i : Nat) (hW : W.length = 4 * i) (hx : x.length = 4) (j : Nat) : wd (nB (W ++ x)) j = if j = i then wd (nB x) 0 else wd (nB W) j := by
  by_cases e : j = i
  · subst e
    rw [if_pos rfl]
    unfold wd
    have h0 := nB_right W x 0
    rw [Nat.add_zero, hW] at h0
    rw [h0, ← hW, nB_right W x 1, nB_right W x 2, nB_right W x 3]
  · rw [if_neg e]
    by_cases h : j < i
    · unfold wd
      rw [nB_left W x _ (by omega), nB_left W x _ (by omega), nB_left W x _ (by omega), nB_left W x _ (by omega)]
    · rw [wd_out W j (by omega), wd_out (W ++ x) j (by rw [List.length_append]; omega)]
theorem nW4 (W x : List UInt8) (i : Nat) : nW W x i 4 = [W.getD (4 * i - 32) 0 ^^^ x.getD 0 0, W.getD (4 * i - 32 + 1) 0 ^^^ x.getD 1 0, W.getD (4 * i - 32 + 2) 0 ^^^ x.getD 2 0, W.getD (4 * i - 32 + 3) 0 ^^^ x.getD 3 0] := by simp only [nW, List.nil_append, List.cons_append, Nat.add_zero]
theorem wd_nW (W x : List UInt8) (i : Nat) (hi : 8 ≤ i) : wd (nB (nW W x i 4)) 0 = wd (nB W) (i - 8) ^^^ wd (nB x) 0 := by
  rw [nW4]
  unfold wd
  rw [w4_xor (nB_lt _ _) (nB_lt _ _) (nB_lt _ _) (nB_lt _ _) (nB_lt _ _) (nB_lt _ _), show 4 * (i - 8) = 4 * i - 32 by omega]
  refine w4_ext ?_ ?_ ?_ ?_ <;> exact UInt8.toNat_xor _ _
theorem wd_four (a b c d : UInt8) : wd (nB [a, b, c, d]) 0 = w4 a.toNat b.toNat c.toNat d.toNat := rfl
/-- The last word of those that are there. -/
theorem nB_last (W : List UInt8) (i : Nat) (hW : W.length = 4 * i) (hi : 0 < i) (r : Nat) (hr : r < 4) : nB ((W.take (4 * i)).drop (4 * i - 4)) r = nB W (4 * (i - 1) + r) := by
  rw [show 4 * i = W.length from hW.symm, List.take_length]
  unfold nB
  rw [List.getD_eq_getElem?_getD, List.getD_eq_getElem?_getD, List.getElem?_drop, hW, show 4 * i - 4 + r = 4 * (i - 1) + r by omega]
theorem wd_last (W : List UInt8) (i : Nat) (hW : W.length = 4 * i) (hi : 0 < i) : wd (nB ((W.take (4 * i)).drop (4 * i - 4))) 0 = wd (nB W) (i - 1) := by
  unfold wd
  have h0 := nB_last W i hW hi 0 (by decide)
  have h1 := nB_last W i hW hi 1 (by decide)
  have h2 := nB_last W i hW hi 2 (by decide)
  have h3 := nB_last W i hW hi 3 (by decide)
  simp only [Nat.mul_zero, Nat.zero_add, Nat.add_zero] at h0 h1 h2 h3 ⊢
  rw [h0, h1, h2, h3]
set_option maxHeartbeats 4000000 in
set_option maxRecDepth 20000 in
theorem newCipher_any (v0 : Value) (l0 : List UInt8) (w : World) (h0 : Bs w v0 l0) (hl : l0.length = 32) : Calls Try.prog 60 #[v0] w fun e w' => ∃ b, e = .returned (.pointer (some ⟨b, 0, none⟩)) ∧ w.heap.size ≤ b ∧ w'.rowIs b 99 316 (ciF boxN (wd (nB (schL l0)))) ∧ Below w.heap.size w w' := by
  have Bw0 := Below.refl w.heap.size w
  have HGS : Hid (∀ wq : World, Below w.heap.size w wq → w.heap.size ≤ wq.heap.size) := Lib.hid fun wq h => h.size
  have f_s0 := h0
  have HF0 := Lib.hid h0
  have HL := Lib.hid hl
  clear h0 hl
  go_enter Try.func60, Try.ntmps60
  go_wp2_with (first
    | (have hgo := Bw0; clear hgo
       go_at_call 71
       refine (pboxes_any _).mono ?_
       rintro e w1 ⟨rfl, kk⟩
       have Bw1 := zbt HGS Bw0 kk
       clear Bw0 kk)
    | (have hgo := Bw1; clear hgo
       refine wpList_build_arr rfl 99 #[(0, .tmp 8)] rfl (arrOf 316 (ciF boxN (fun _ => 0))) ?_ ?_
       · simp only [List.map_toArray, List.map_cons, List.map_nil]; exact builtCi boxN
       have Bw2 := Bw1
       clear Bw1)
    | (have hgo := Bw2; clear hgo
       refine wpList_box_row rfl 99 (.tmp 9) rfl 316 (ciF boxN (fun _ => 0)) rfl ?_
       intro b_c w2 lk r_c kk
       have l_c := zrl HGS Bw2 lk
       have Bw3 := zbt HGS Bw2 kk
       clear Bw2 kk lk))
  clear f_s0
  go_loopw [11] (fun iv wr => ∃ i : Nat, i ≤ 8 ∧ iv = .int .i64 (i : Int) ∧ wr.rowIs b_c 99 316 (ciF boxN (upN (wd (nB l0)) (fun _ => 0) i)) ∧ Below w.heap.size w wr) (fun iv _ => 8 - (intOf iv).toNat)
  case atStart => exact ⟨0, by decide, rfl, by rw [upN_zero]; exact r_c, Bw3⟩
  case round =>
    clear r_c Bw3
    obtain ⟨i, hi, rfl, r_c, Bw0⟩ := hrel
    by_cases hlt : i < 8
    · have hiI : 0 ≤ (i : Int) ∧ (i : Int) < 8 := by omega
      have hiJ : (i : Int) < 60 := by omega
      have HI := Lib.hid hlt
      have HIL : Hid (i < 60) := Lib.hid (by omega)
      obtain ⟨m, hm⟩ := nat_var (4 * i)
      have hw1 : IntKind.i64.wrap (4 * (i : Int)) = (m : Int) := by rw [IntWalk.i64_in _ (by omega)]; omega
      obtain ⟨x, hx⟩ := nat_var (numB (l0.drop m) 4)
      have HZ : Hid (wd (nB l0) i = x) := Lib.hid (by rw [hx, hm, numB_wd])
      replace r_c := r_c.drew
      replace Bw0 := Bw0.drew
      have f_k := HF0.out.below Bw0 (Nat.le_refl _)
      obtain ⟨v_s, f_s, hrs⟩ := dropB f_k m (by rw [HL.out]; omega)
      have HG : Hid (Calls Try.prog 72 #[v_s] wr.drew fun e w' => e = .returned (.int .u32 (x : Int)) ∧ w' = wr.drew) := Lib.hid (by rw [hx]; exact get32_any _ _ _ f_s)
      clear hm hx hi hlt f_k f_s
      go_wp2
      refine ea_start [(0, some [10]), (1, some [10]), (2, some [10]), (3, some [10]), (4, some [10]), (5, some [6]), (7, some []), (8, some []), (6, none), (9, some [10]), (10, none)] (by kernel_rfl) (by kernel_rfl) (by decide) (by kernel_rfl) (fun d _ _ _ _ h => by cases d <;> exact h) ?_
      refine ea_rd 14 (.pointer (some ⟨b_c, 0, none⟩)) rfl rfl rfl rfl rfl (by unfold mkOp; go_simp; all_goals (with_reducible rfl)) ?_
      simp only [Act.put, zA, zB, zC]
      refine ea_rd 15 (.int .i64 (i : Int)) rfl rfl rfl rfl rfl (by unfold mkOp; go_simp; all_goals (with_reducible rfl)) ?_
      simp only [Act.put, zA, zB, zC]
      refine ea_rd 16 (v0) rfl rfl rfl rfl rfl (by unfold mkOp; go_simp; all_goals (with_reducible rfl)) ?_
      simp only [Act.put, zA, zB, zC]
      refine ea_rd 17 (.int .i64 (i : Int)) rfl rfl rfl rfl rfl (by unfold mkOp; go_simp; all_goals (with_reducible rfl)) ?_
      simp only [Act.put, zA, zB, zC]
      refine ea_rd 18 (.int .i64 (m : Int)) rfl rfl rfl rfl rfl (by unfold mkOp; go_simp; all_goals (with_reducible rfl)) ?_
      simp only [Act.put, zA, zB, zC]
      refine ea_rd 19 (v_s) rfl rfl rfl rfl rfl (by exact hrs _ _ _ _ _ rfl rfl) ?_
      simp only [Act.put, zA, zB, zC]
      refine le_rdA 21 (.pointer (some ⟨b_c, 0, none⟩)) rfl rfl rfl rfl rfl (fun wx => by unfold mkOp; go_simp; all_goals (with_reducible rfl)) ?_
      simp only [Act.put, zA, zB, zC]
      refine le_rdA 22 (.pointer (some ⟨b_c, 256, none⟩)) rfl rfl rfl rfl rfl (fun wx => by unfold mkOp; go_simp; all_goals (with_reducible rfl)) ?_
      simp only [Act.put, zA, zB, zC]
      refine ea_call 20 (HG.out) rfl rfl rfl rfl Try.func72 (by kernel_rfl) (by kernel_rfl) (by go_simp) ?_
      simp only [Act.put, zA, zB, zC]
      refine ea_rd 23 (.pointer (some ⟨b_c, 256 + i, none⟩)) rfl rfl rfl rfl rfl (by unfold mkOp; go_simp; all_goals (with_reducible rfl)) ?_
      simp only [Act.put, zA, zB, zC]
      refine ea_storeW (upN (wd (nB l0)) (fun _ => 0) (i + 1)) rfl rfl rfl rfl rfl rfl r_c HIL.out rfl rfl (by kernel_rfl) (upN_stepC _ _ i x 60 HZ.out) ?_
      intro w7 q7 g7
      refine le_end ?_
      have Bw1 := zbg HGS Bw0 g7 l_c
      clear Bw0 g7 r_c hw1 hiJ hrs HG
      go_wp2
      go_roundw
      case rel => exact ⟨i + 1, HI.out, by have := HI.out; go_num, q7, Bw1⟩
      case measure => (have := HI.out; simp [intOf]; try omega)
    · obtain rfl : i = 8 := by omega
      replace r_c : wr.rowIs b_c 99 316 (ciF boxN (wd (nB (schS l0 0).1))) := ci_congr r_c fun j _ => by
        unfold upN
        split
        · rfl
        · exact (wd_out l0 j (by rw [HL.out]; omega)).symm
      clear hi hlt
      rw [show ((8 : Nat) : Int) = 8 from rfl]
      go_wp2
      go_loopw [5, 6] (fun mv iv wr => ∃ n : Nat, n ≤ 52 ∧ mv = .int .u8 (((schS l0 n).2 : Nat) : Int) ∧ iv = .int .i64 ((n + 8 : Nat) : Int) ∧ wr.rowIs b_c 99 316 (ciF boxN (wd (nB (schS l0 n).1))) ∧ Below w.heap.size w wr) (fun _ iv _ => 60 - (intOf iv).toNat)
      case atStart => exact ⟨0, by decide, rfl, rfl, r_c, Bw0⟩
      case round =>
        clear r_c Bw0
        obtain ⟨n, hn, rfl, rfl, r_c, Bw0⟩ := hrel
        by_cases hlt : n < 52
        · obtain ⟨rc, hrc⟩ := nat_var (schS l0 n).2
          obtain ⟨W, hW⟩ : ∃ W, W = (schS l0 n).1 := ⟨_, rfl⟩
          obtain ⟨i, hi⟩ := nat_var (n + 8)
          have hrl : rc < 256 := by rw [hrc]; exact schS_lt l0 n
          have hWl : W.length = 4 * i := by rw [hW, hi]; exact schS_len l0 HL.out n
          obtain ⟨X, hX⟩ : ∃ X, X = (W.take (4 * i)).drop (4 * i - 4) := ⟨_, rfl⟩
          obtain ⟨x, hx⟩ := nat_var (wd (nB W) (i - 1))
          have hXx : wd (nB X) 0 = x := by rw [hX, hx]; exact wd_last W i hWl (by omega)
          have HST : schS l0 (n + 1) = (W ++ nW W (tW X i rc) i 4, if i % 8 = 0 then gfm rc 2 else rc) := by
            rw [hX, hi, hrc, hW]
            rfl
          obtain ⟨e, he⟩ := nat_var (i % 8)
          obtain ⟨i8, hi8⟩ := nat_var (i - 8)
          obtain ⟨i1, hi1⟩ := nat_var (i - 1)
          obtain ⟨u, hu⟩ := nat_var (wd (nB W) i8)
          have hul : u < 4294967296 := by rw [hu]; exact wd_lt (nB_lt W) _
          rw [← hW] at r_c
          rw [← hrc, ← hi]
          have hiI : 0 ≤ (i : Int) ∧ (i : Int) < 60 := by omega
          have hi8I : 0 ≤ (i8 : Int) ∧ (i8 : Int) < 60 := by omega
          have hi1I : 0 ≤ (i1 : Int) ∧ (i1 : Int) < 60 := by omega
          have hw1 : IntKind.i64.wrap ((i : Int) - 1) = (i1 : Int) := by rw [IntWalk.i64_in _ (by omega)]; omega
          have hw2 : IntKind.i64.wrap ((i : Int) - 8) = (i8 : Int) := by rw [IntWalk.i64_in _ (by omega)]; omega
          have hw4 : (i : Int).tmod 8 = (e : Int) := by rw [Int.tmod_eq_emod_of_nonneg (by omega)]; omega
          have hw3 : IntKind.i64.wrap ((i : Int).tmod 8) = (e : Int) := by rw [hw4, IntWalk.i64_in _ (by omega)]
          obtain ⟨i2, hi2⟩ := nat_var (i + 1)
          have hw5 : IntKind.i64.wrap ((i : Int) + 1) = (i2 : Int) := by rw [IntWalk.i64_in _ (by omega)]; omega
          have HI2 := Lib.hid hi2
          have HIL : Hid (i < 60) := Lib.hid (by omega)
          have HI8 : Hid (i8 < 60) := Lib.hid (by omega)
          have HI1 : Hid (i1 < 60) := Lib.hid (by omega)
          have HU : Hid (u = wd (nB W) i8) := Lib.hid hu
          have HX : Hid (wd (nB W) i1 = x) := Lib.hid (by rw [hx, hi1])
          have HN : Hid (n + 1 ≤ 52 ∧ i = n + 8) := Lib.hid ⟨hlt, hi⟩
          have HSTEP : ∀ y z : Nat, (schS l0 (n + 1)).1 = W ++ nW W (tW X i rc) i 4 → wd (nB (tW X i rc)) 0 = y → z = u ^^^ y → ∀ j, j < 60 → wd (nB (schS l0 (n + 1)).1) j = if j = i then z else wd (nB W) j := fun y z e1 e2 e3 j _ => by
            rw [e1, wd_app W _ i hWl (nW_len _ _ _ 4), wd_nW W _ i (by omega), e2, e3, hu, hi8]
          have xs0 : nB X 0 < 256 := nB_lt X 0
          by_cases he0 : e = 0
          · have hi0 : i % 8 = 0 := by omega
            obtain ⟨t, ht⟩ := nat_var (w4 (nB X 1) (nB X 2) (nB X 3) (nB X 0))
            obtain ⟨s, hs⟩ := nat_var (w4 (boxN (nB X 1)) (boxN (nB X 2)) (boxN (nB X 3)) (boxN (nB X 0)))
            obtain ⟨k, hk⟩ := nat_var (w4 rc 0 0 0)
            obtain ⟨y, hy⟩ := nat_var (s ^^^ k)
            obtain ⟨z, hz⟩ := nat_var (u ^^^ y)
            have hxx : x = w4 (nB X 0) (nB X 1) (nB X 2) (nB X 3) := hXx.symm
            have R1 : Hid (∀ w1, Calls Try.prog 74 #[.int .u32 (x : Int), .int .i64 8] w1 fun e w' => e = .returned (.int .u32 (t : Int)) ∧ w' = w1) := Lib.hid fun w1 => by rw [hxx, ht]; exact rotw_8 _ _ _ _ w1 (nB_lt _ _) (nB_lt _ _) (nB_lt _ _) (nB_lt _ _)
            have HSB : Hid (∀ w1, w1.rowIs b_c 99 316 (ciF boxN (wd (nB W))) → Calls Try.prog 73 #[.pointer (some ⟨b_c, 0, none⟩), .int .u32 (t : Int)] w1 fun e w' => e = .returned (.int .u32 (s : Int)) ∧ Below w1.heap.size w1 w') := Lib.hid fun w1 h => by
              rw [ht, hs]
              exact sub_any b_c _ _ _ _ _ w1 h (ci_box _ _) (nB_lt _ _) (nB_lt _ _) (nB_lt _ _) (nB_lt _ _)
            obtain ⟨m2, hm2⟩ := nat_var (xtN rc)
            have RD : Hid (∀ w1, Calls Try.prog 75 #[.int .u8 (rc : Int)] w1 fun e w' => e = .returned (.int .u8 (m2 : Int)) ∧ w' = w1) := Lib.hid fun w1 => by rw [hm2]; exact dbl_any rc w1 hrl
            have sl : s < 4294967296 := by rw [hs]; exact w4_lt (boxN_lt _) (boxN_lt _) (boxN_lt _) (boxN_lt _)
            have kl : k < 4294967296 := by rw [hk]; exact w4_lt hrl (by decide) (by decide) (by decide)
            have hye : y = w4 (boxN (nB X 1) ^^^ rc) (boxN (nB X 2)) (boxN (nB X 3)) (boxN (nB X 0)) := by rw [hy, hs, hk, w4_xor (boxN_lt _) (boxN_lt _) (boxN_lt _) (by decide) (by decide) (by decide)]; simp
            have yl : y < 4294967296 := by rw [hye]; exact w4_lt (xor_lt8 (boxN_lt _) hrl) (boxN_lt _) (boxN_lt _) (boxN_lt _)
            have b1 : IntKind.u32.wrap (rc : Int) = (rc : Int) := by rw [IntKind.wrap_u32]; omega
            have b2 : IntKind.u32.wrap ((rc : Int) * 16777216) = (k : Int) := by rw [IntKind.wrap_u32, hk]; unfold w4; omega
            have b3 : bits .xor .u32 (s : Int) (k : Int) = (y : Int) := by rw [bits_xor32 s k sl kl, hy]
            have e9 : bits .xor .u32 (u : Int) (y : Int) = (z : Int) := by rw [bits_xor32 u y hul yl, hz]
            have hty : wd (nB (tW X i rc)) 0 = y := by
              unfold tW
              rw [if_pos hi0, wd_four, hye]
              exact w4_ext (UInt8.toNat_ofNat_of_lt' (xor_lt8 (boxN_lt _) hrl)) (sb8_n _) (sb8_n _) (sb8_n _)
            have HZ := Lib.hid (HSTEP y z (by rw [HST]) hty hz)
            have HM : Hid ((schS l0 (n + 1)).2 = m2) := Lib.hid (by rw [HST, hm2, ← gfm_two rc hrl]; exact if_pos hi0)
            clear ht hs hk hy hz hxx hm2 sl kl hye yl hty hi0
            clear hn hlt hrc hW hrl hWl hX hx hXx HST hi8 hi1 hu hul HSTEP xs0 hi hi2 he
            subst he0
            go_wp2_with (first
              | (have hgo := HX; clear hgo
                 refine wpList_load_w rfl 74 (.tmp 34) rfl r_c HI1.out rfl (by kernel_rfl) HX.out ?_
                 clear HX)
              | (have hgo := R1; clear hgo
                 go_at_call 74
                 refine (R1.out _).mono ?_
                 rintro e w2 ⟨rfl, rfl⟩
                 clear R1)
              | (have hgo := Bw0; clear hgo
                 go_at_call 73
                 refine (HSB.out _ r_c).mono ?_
                 rintro e w3 ⟨rfl, kk⟩
                 replace r_c := zrb r_c kk
                 have Bw1 := zbt HGS Bw0 kk
                 clear Bw0 kk)
              | (have hgo := RD; clear hgo
                 go_at_call 75
                 refine (RD.out _).mono ?_
                 rintro e w5 ⟨rfl, rfl⟩
                 clear RD))
            clear b1 b2 b3 hw1 hw3 hw4 hi1I
            replace r_c := r_c.drew
            replace Bw1 := Bw1.drew
            have c2 : w5.drew.cell? ⟨b_c, 256 + i8, none⟩ = some (.int .u32 (u : Int)) := by rw [HU.out, ← ci_word boxN]; exact r_c.cell (by have := HI8.out; omega)
            refine ea_start [(0, some [14]), (1, some [14]), (2, some [14]), (3, some [14]), (4, some [14]), (5, some [14]), (6, some [14]), (7, some [14]), (8, some [14]), (9, some [14]), (10, some [14]), (11, some []), (12, some []), (13, some [14]), (14, none)] (by kernel_rfl) (by kernel_rfl) (by decide) (by kernel_rfl) (fun d _ _ _ _ h => by cases d <;> exact h) ?_
            refine ea_rd 55 (.pointer (some ⟨b_c, 0, none⟩)) rfl rfl rfl rfl rfl (by unfold mkOp; go_simp; all_goals (with_reducible rfl)) ?_
            simp only [Act.put, zA, zB, zC]
            refine ea_rd 56 (.int .i64 (i : Int)) rfl rfl rfl rfl rfl (by unfold mkOp; go_simp; all_goals (with_reducible rfl)) ?_
            simp only [Act.put, zA, zB, zC]
            refine ea_rd 57 (.pointer (some ⟨b_c, 0, none⟩)) rfl rfl rfl rfl rfl (by unfold mkOp; go_simp; all_goals (with_reducible rfl)) ?_
            simp only [Act.put, zA, zB, zC]
            refine ea_rd 58 (.int .i64 (i : Int)) rfl rfl rfl rfl rfl (by unfold mkOp; go_simp; all_goals (with_reducible rfl)) ?_
            simp only [Act.put, zA, zB, zC]
            refine ea_rd 59 (.int .i64 (i8 : Int)) rfl rfl rfl rfl rfl (by unfold mkOp; go_simp; all_goals (with_reducible rfl)) ?_
            simp only [Act.put, zA, zB, zC]
            refine ea_rd 60 (.pointer (some ⟨b_c, 0, none⟩)) rfl rfl rfl rfl rfl (by unfold mkOp; go_simp; all_goals (with_reducible rfl)) ?_
            simp only [Act.put, zA, zB, zC]
            refine ea_rd 61 (.pointer (some ⟨b_c, 256, none⟩)) rfl rfl rfl rfl rfl (by unfold mkOp; go_simp; all_goals (with_reducible rfl)) ?_
            simp only [Act.put, zA, zB, zC]
            refine ea_rd 62 (.pointer (some ⟨b_c, 256 + i8, none⟩)) rfl rfl rfl rfl rfl (by unfold mkOp; go_simp; all_goals (with_reducible rfl)) ?_
            simp only [Act.put, zA, zB, zC]
            refine ea_rd 63 (.int .u32 (u : Int)) rfl rfl rfl rfl rfl (by have c9 := c2; unfold mkOp; go_simp; all_goals (with_reducible rfl)) ?_
            simp only [Act.put, zA, zB, zC]
            refine ea_rd 64 (.int .u32 (y : Int)) rfl rfl rfl rfl rfl (by unfold mkOp; go_simp; all_goals (with_reducible rfl)) ?_
            simp only [Act.put, zA, zB, zC]
            refine ea_rd 65 (.int .u32 (z : Int)) rfl rfl rfl rfl rfl (by unfold mkOp; go_simp; all_goals (with_reducible rfl)) ?_
            simp only [Act.put, zA, zB, zC]
            refine le_rdA 66 (.pointer (some ⟨b_c, 0, none⟩)) rfl rfl rfl rfl rfl (fun wx => by unfold mkOp; go_simp; all_goals (with_reducible rfl)) ?_
            simp only [Act.put, zA, zB, zC]
            refine le_rdA 67 (.pointer (some ⟨b_c, 256, none⟩)) rfl rfl rfl rfl rfl (fun wx => by unfold mkOp; go_simp; all_goals (with_reducible rfl)) ?_
            simp only [Act.put, zA, zB, zC]
            refine ea_rd 68 (.pointer (some ⟨b_c, 256 + i, none⟩)) rfl rfl rfl rfl rfl (by unfold mkOp; go_simp; all_goals (with_reducible rfl)) ?_
            simp only [Act.put, zA, zB, zC]
            refine ea_storeW (wd (nB (schS l0 (n + 1)).1)) rfl rfl rfl rfl rfl rfl r_c HIL.out rfl rfl (by kernel_rfl) HZ.out ?_
            intro w7 q7 g7
            refine le_end ?_
            have B7 := zbg HGS Bw1 g7 l_c
            clear Bw1 g7 r_c c2 e9 hi8I hiI
            go_wp2
            go_roundw
            case rel => exact ⟨n + 1, HN.out.1, by rw [HM.out], by rw [HI2.out, HN.out.2], q7, B7⟩
            case measure => (have := HN.out; have := HI2.out; simp [intOf]; try omega)
          · have hi0 : ¬ i % 8 = 0 := by omega
            by_cases he4 : e = 4
            · have hi4 : i % 8 = 4 := by omega
              obtain ⟨s, hs⟩ := nat_var (w4 (boxN (nB X 0)) (boxN (nB X 1)) (boxN (nB X 2)) (boxN (nB X 3)))
              obtain ⟨z, hz⟩ := nat_var (u ^^^ s)
              have hxx : x = w4 (nB X 0) (nB X 1) (nB X 2) (nB X 3) := hXx.symm
              have HSB : Hid (∀ w1, w1.rowIs b_c 99 316 (ciF boxN (wd (nB W))) → Calls Try.prog 73 #[.pointer (some ⟨b_c, 0, none⟩), .int .u32 (x : Int)] w1 fun e w' => e = .returned (.int .u32 (s : Int)) ∧ Below w1.heap.size w1 w') := Lib.hid fun w1 h => by
                rw [hxx, hs]
                exact sub_any b_c _ _ _ _ _ w1 h (ci_box _ _) (nB_lt _ _) (nB_lt _ _) (nB_lt _ _) (nB_lt _ _)
              have sl : s < 4294967296 := by rw [hs]; exact w4_lt (boxN_lt _) (boxN_lt _) (boxN_lt _) (boxN_lt _)
              have e9 : bits .xor .u32 (u : Int) (s : Int) = (z : Int) := by rw [bits_xor32 u s hul sl, hz]
              have hty : wd (nB (tW X i rc)) 0 = s := by
                unfold tW
                rw [if_neg hi0, if_pos hi4, wd_four, hs]
                exact w4_ext (sb8_n _) (sb8_n _) (sb8_n _) (sb8_n _)
              have HZ := Lib.hid (HSTEP s z (by rw [HST]) hty hz)
              have HM : Hid ((schS l0 (n + 1)).2 = rc) := Lib.hid (by rw [HST]; exact if_neg hi0)
              clear hs hz hxx sl hty hi0 hi4 he0
              clear hn hlt hrc hW hrl hWl hX hx hXx HST hi8 hi1 hu hul HSTEP xs0 hi hi2 he
              subst he4
              go_wp2_with (first
                | (have hgo := HX; clear hgo
                   refine wpList_load_w rfl 74 (.tmp 34) rfl r_c HI1.out rfl (by kernel_rfl) HX.out ?_
                   clear HX)
                | (have hgo := Bw0; clear hgo
                   go_at_call 73
                   refine (HSB.out _ r_c).mono ?_
                   rintro e w3 ⟨rfl, kk⟩
                   replace r_c := zrb r_c kk
                   have Bw1 := zbt HGS Bw0 kk
                   clear Bw0 kk))
              clear hw1 hw3 hw4 hi1I
              replace r_c := r_c.drew
              replace Bw1 := Bw1.drew
              have c2 : w3.drew.cell? ⟨b_c, 256 + i8, none⟩ = some (.int .u32 (u : Int)) := by rw [HU.out, ← ci_word boxN]; exact r_c.cell (by have := HI8.out; omega)
              refine ea_start [(0, some [14]), (1, some [14]), (2, some [14]), (3, some [14]), (4, some [14]), (5, some [14]), (6, some [14]), (7, some [14]), (8, some [14]), (9, some [14]), (10, some [14]), (11, some []), (12, some []), (13, some [14]), (14, none)] (by kernel_rfl) (by kernel_rfl) (by decide) (by kernel_rfl) (fun d _ _ _ _ h => by cases d <;> exact h) ?_
              refine ea_rd 55 (.pointer (some ⟨b_c, 0, none⟩)) rfl rfl rfl rfl rfl (by unfold mkOp; go_simp; all_goals (with_reducible rfl)) ?_
              simp only [Act.put, zA, zB, zC]
              refine ea_rd 56 (.int .i64 (i : Int)) rfl rfl rfl rfl rfl (by unfold mkOp; go_simp; all_goals (with_reducible rfl)) ?_
              simp only [Act.put, zA, zB, zC]
              refine ea_rd 57 (.pointer (some ⟨b_c, 0, none⟩)) rfl rfl rfl rfl rfl (by unfold mkOp; go_simp; all_goals (with_reducible rfl)) ?_
              simp only [Act.put, zA, zB, zC]
              refine ea_rd 58 (.int .i64 (i : Int)) rfl rfl rfl rfl rfl (by unfold mkOp; go_simp; all_goals (with_reducible rfl)) ?_
              simp only [Act.put, zA, zB, zC]
              refine ea_rd 59 (.int .i64 (i8 : Int)) rfl rfl rfl rfl rfl (by unfold mkOp; go_simp; all_goals (with_reducible rfl)) ?_
              simp only [Act.put, zA, zB, zC]
              refine ea_rd 60 (.pointer (some ⟨b_c, 0, none⟩)) rfl rfl rfl rfl rfl (by unfold mkOp; go_simp; all_goals (with_reducible rfl)) ?_
              simp only [Act.put, zA, zB, zC]
              refine ea_rd 61 (.pointer (some ⟨b_c, 256, none⟩)) rfl rfl rfl rfl rfl (by unfold mkOp; go_simp; all_goals (with_reducible rfl)) ?_
              simp only [Act.put, zA, zB, zC]
              refine ea_rd 62 (.pointer (some ⟨b_c, 256 + i8, none⟩)) rfl rfl rfl rfl rfl (by unfold mkOp; go_simp; all_goals (with_reducible rfl)) ?_
              simp only [Act.put, zA, zB, zC]
              refine ea_rd 63 (.int .u32 (u : Int)) rfl rfl rfl rfl rfl (by have c9 := c2; unfold mkOp; go_simp; all_goals (with_reducible rfl)) ?_
              simp only [Act.put, zA, zB, zC]
              refine ea_rd 64 (.int .u32 (s : Int)) rfl rfl rfl rfl rfl (by unfold mkOp; go_simp; all_goals (with_reducible rfl)) ?_
              simp only [Act.put, zA, zB, zC]
              refine ea_rd 65 (.int .u32 (z : Int)) rfl rfl rfl rfl rfl (by unfold mkOp; go_simp; all_goals (with_reducible rfl)) ?_
              simp only [Act.put, zA, zB, zC]
              refine le_rdA 66 (.pointer (some ⟨b_c, 0, none⟩)) rfl rfl rfl rfl rfl (fun wx => by unfold mkOp; go_simp; all_goals (with_reducible rfl)) ?_
              simp only [Act.put, zA, zB, zC]
              refine le_rdA 67 (.pointer (some ⟨b_c, 256, none⟩)) rfl rfl rfl rfl rfl (fun wx => by unfold mkOp; go_simp; all_goals (with_reducible rfl)) ?_
              simp only [Act.put, zA, zB, zC]
              refine ea_rd 68 (.pointer (some ⟨b_c, 256 + i, none⟩)) rfl rfl rfl rfl rfl (by unfold mkOp; go_simp; all_goals (with_reducible rfl)) ?_
              simp only [Act.put, zA, zB, zC]
              refine ea_storeW (wd (nB (schS l0 (n + 1)).1)) rfl rfl rfl rfl rfl rfl r_c HIL.out rfl rfl (by kernel_rfl) HZ.out ?_
              intro w7 q7 g7
              refine le_end ?_
              have B7 := zbg HGS Bw1 g7 l_c
              clear Bw1 g7 r_c c2 e9 hi8I hiI
              go_wp2
              go_roundw
              case rel => exact ⟨n + 1, HN.out.1, by rw [HM.out], by rw [HI2.out, HN.out.2], q7, B7⟩
              case measure => (have := HN.out; have := HI2.out; simp [intOf]; try omega)
            · obtain ⟨z, hz⟩ := nat_var (u ^^^ x)
              have hi4 : ¬ i % 8 = 4 := by omega
              have hxx : x = w4 (nB X 0) (nB X 1) (nB X 2) (nB X 3) := hXx.symm
              have e9 : bits .xor .u32 (u : Int) (x : Int) = (z : Int) := by rw [bits_xor32 u x hul (by rw [hxx]; exact w4_lt (nB_lt _ _) (nB_lt _ _) (nB_lt _ _) (nB_lt _ _)), hz]
              have hty : wd (nB (tW X i rc)) 0 = x := by
                unfold tW
                rw [if_neg hi0, if_neg hi4, hXx]
              have HZ := Lib.hid (HSTEP x z (by rw [HST]) hty hz)
              have HM : Hid ((schS l0 (n + 1)).2 = rc) := Lib.hid (by rw [HST]; exact if_neg hi0)
              have heI : ¬ (e : Int) = 0 := by omega
              have heJ : ¬ (e : Int) = 4 := by omega
              clear hz hxx hty hi0 hi4 he0 he4
              clear hn hlt hrc hW hrl hWl hX hx hXx HST hi8 hi1 hu hul HSTEP xs0 hi hi2 he
              go_wp2_with (first
                | (have hgo := HX; clear hgo
                   refine wpList_load_w rfl 74 (.tmp 34) rfl r_c HI1.out rfl (by kernel_rfl) HX.out ?_
                   clear HX))
              clear hw1 hw3 hw4 hi1I heI heJ
              replace r_c := r_c.drew
              replace Bw0 := Bw0.drew
              have c2 : wr.drew.cell? ⟨b_c, 256 + i8, none⟩ = some (.int .u32 (u : Int)) := by rw [HU.out, ← ci_word boxN]; exact r_c.cell (by have := HI8.out; omega)
              refine ea_start [(0, some [14]), (1, some [14]), (2, some [14]), (3, some [14]), (4, some [14]), (5, some [14]), (6, some [14]), (7, some [14]), (8, some [14]), (9, some [14]), (10, some [14]), (11, some []), (12, some []), (13, some [14]), (14, none)] (by kernel_rfl) (by kernel_rfl) (by decide) (by kernel_rfl) (fun d _ _ _ _ h => by cases d <;> exact h) ?_
              refine ea_rd 55 (.pointer (some ⟨b_c, 0, none⟩)) rfl rfl rfl rfl rfl (by unfold mkOp; go_simp; all_goals (with_reducible rfl)) ?_
              simp only [Act.put, zA, zB, zC]
              refine ea_rd 56 (.int .i64 (i : Int)) rfl rfl rfl rfl rfl (by unfold mkOp; go_simp; all_goals (with_reducible rfl)) ?_
              simp only [Act.put, zA, zB, zC]
              refine ea_rd 57 (.pointer (some ⟨b_c, 0, none⟩)) rfl rfl rfl rfl rfl (by unfold mkOp; go_simp; all_goals (with_reducible rfl)) ?_
              simp only [Act.put, zA, zB, zC]
              refine ea_rd 58 (.int .i64 (i : Int)) rfl rfl rfl rfl rfl (by unfold mkOp; go_simp; all_goals (with_reducible rfl)) ?_
              simp only [Act.put, zA, zB, zC]
              refine ea_rd 59 (.int .i64 (i8 : Int)) rfl rfl rfl rfl rfl (by unfold mkOp; go_simp; all_goals (with_reducible rfl)) ?_
              simp only [Act.put, zA, zB, zC]
              refine ea_rd 60 (.pointer (some ⟨b_c, 0, none⟩)) rfl rfl rfl rfl rfl (by unfold mkOp; go_simp; all_goals (with_reducible rfl)) ?_
              simp only [Act.put, zA, zB, zC]
              refine ea_rd 61 (.pointer (some ⟨b_c, 256, none⟩)) rfl rfl rfl rfl rfl (by unfold mkOp; go_simp; all_goals (with_reducible rfl)) ?_
              simp only [Act.put, zA, zB, zC]
              refine ea_rd 62 (.pointer (some ⟨b_c, 256 + i8, none⟩)) rfl rfl rfl rfl rfl (by unfold mkOp; go_simp; all_goals (with_reducible rfl)) ?_
              simp only [Act.put, zA, zB, zC]
              refine ea_rd 63 (.int .u32 (u : Int)) rfl rfl rfl rfl rfl (by have c9 := c2; unfold mkOp; go_simp; all_goals (with_reducible rfl)) ?_
              simp only [Act.put, zA, zB, zC]
              refine ea_rd 64 (.int .u32 (x : Int)) rfl rfl rfl rfl rfl (by unfold mkOp; go_simp; all_goals (with_reducible rfl)) ?_
              simp only [Act.put, zA, zB, zC]
              refine ea_rd 65 (.int .u32 (z : Int)) rfl rfl rfl rfl rfl (by unfold mkOp; go_simp; all_goals (with_reducible rfl)) ?_
              simp only [Act.put, zA, zB, zC]
              refine le_rdA 66 (.pointer (some ⟨b_c, 0, none⟩)) rfl rfl rfl rfl rfl (fun wx => by unfold mkOp; go_simp; all_goals (with_reducible rfl)) ?_
              simp only [Act.put, zA, zB, zC]
              refine le_rdA 67 (.pointer (some ⟨b_c, 256, none⟩)) rfl rfl rfl rfl rfl (fun wx => by unfold mkOp; go_simp; all_goals (with_reducible rfl)) ?_
              simp only [Act.put, zA, zB, zC]
              refine ea_rd 68 (.pointer (some ⟨b_c, 256 + i, none⟩)) rfl rfl rfl rfl rfl (by unfold mkOp; go_simp; all_goals (with_reducible rfl)) ?_
              simp only [Act.put, zA, zB, zC]
              refine ea_storeW (wd (nB (schS l0 (n + 1)).1)) rfl rfl rfl rfl rfl rfl r_c HIL.out rfl rfl (by kernel_rfl) HZ.out ?_
              intro w7 q7 g7
              refine le_end ?_
              have B7 := zbg HGS Bw0 g7 l_c
              clear Bw0 g7 r_c c2 e9 hi8I hiI
              go_wp2
              go_roundw
              case rel => exact ⟨n + 1, HN.out.1, by rw [HM.out], by rw [HI2.out, HN.out.2], q7, B7⟩
              case measure => (have := HN.out; have := HI2.out; simp [intOf]; try omega)
        · obtain rfl : n = 52 := by omega
          clear hn hlt
          go_wp2
          go_ret
          exact ⟨b_c, rfl, l_c, r_c, Bw0⟩
end Go.Proofs.Ytclbfbkbmiijnaa

/- The program's AES: a block. -/
namespace Go.Proofs.Ytclbfbkbmiijnaa
open Go.RowKit Go.Deep
set_option linter.unusedSimpArgs false
set_option linter.unusedVariables false

theorem run_make0x (n : Nat) (hn : n ≤ 1000000) (w : World) : (Instr.makeSlice 22 (.int .i64 0) (.int .i64 (n : Int))).run Try.prog w = .ok (.slice (some ⟨w.heap.size, 0, none⟩) 0 n) (w.alloc (.cells (madeCells #[.int .u8 0] n) 5)) := by
  obtain ⟨i, hi, hzz⟩ := Option.map_eq_some_iff.1 (show (Try.prog.info? 5).map (fun i => (i.zero, i.size, i.bytes)) = some (some (.int .u8 0), 1, 1) from Try.info5)
  simp only [Prod.mk.injEq] at hzz
  obtain ⟨hz, hs, hb⟩ := hzz
  have hr := run_make (P := Try.prog) w 22 5 i (.int .u8 0) Try.underlying22 hi hz .i64 .i64 0 (n : Int) (by decide) (by omega) (by rw [hb]; omega) (by omega)
  simp only [Int.toNat_natCast, hs, Nat.mul_one] at hr
  exact hr
theorem wpList_make0x {ops : Array Oper} {rest : List Oper} {o : Oper} {a : Act} {w : World} {Q : Exit → Act → World → Prop} (hgd : o.guard = none) (x : Operand) (ho : o.op = .makeSlice 22 (.const (.int .i64 0)) x) (n : Nat) (hx : a.eval x = .int .i64 (n : Int)) (hn : n ≤ 1000000)
    (h : ∀ b v w', w.heap.size ≤ b → b < w'.heap.size → Owns w' b v [] → Below w.heap.size w w' → wpList Try.prog ops Q rest (a.put o.dst v) w') : wpList Try.prog ops Q (o :: rest) a w := by
  have hr := run_make0x n hn w
  have hx' : (execOp a.eval (mkOp (.makeSlice 22 (.const (.int .i64 0)) x) o.type)).run Try.prog w = .ok (.value (.slice (some ⟨w.heap.size, 0, none⟩) 0 n)) (w.alloc (.cells (madeCells #[.int .u8 0] n) 5)) := by
    simp [execOp, mkOp, hx, hr, Result.andThen, show ∀ v : Value, a.eval (.const v) = v from fun _ => rfl]
  exact wpList_plain hgd fun _ hK => by
    unfold Oper.wp
    rw [exec_mkOp, ho, hx']
    exact hK _ _ (h _ _ _ (Nat.le_refl _) (by simp) (World.ownsRow_made w _ n (Nat.le_refl _) (by unfold maxLen; omega) (by simp [madeCells])) ((Below.refl _ _).alloc (Nat.le_refl _) _))
/-- The first words of a state, as bytes. -/
def outB (A : Nat → Nat) (k : Nat) : List UInt8 := (List.range (4 * k)).map fun j => UInt8.ofNat (A j)
theorem outB_len (A : Nat → Nat) (k : Nat) : (outB A k).length = 4 * k := by simp [outB]
theorem u8_mod (n : Nat) : UInt8.ofNat (n % 256) = UInt8.ofNat n := by
  apply UInt8.toNat_inj.1
  simp
theorem bigB_wd (A : Nat → Nat) (hA : ∀ j, A j < 256) (k : Nat) : bigB (wd A k) 4 = [UInt8.ofNat (A (4 * k)), UInt8.ofNat (A (4 * k + 1)), UInt8.ofNat (A (4 * k + 2)), UInt8.ofNat (A (4 * k + 3))] := by
  have h := w4_parts (hA (4 * k)) (hA (4 * k + 1)) (hA (4 * k + 2)) (hA (4 * k + 3))
  show [UInt8.ofNat (wd A k / 16777216), UInt8.ofNat (wd A k / 65536), UInt8.ofNat (wd A k / 256), UInt8.ofNat (wd A k / 1)] = _
  unfold wd
  rw [h.1, Nat.div_one, ← u8_mod (w4 _ _ _ _ / 65536), ← u8_mod (w4 _ _ _ _ / 256), ← u8_mod (w4 _ _ _ _), h.2.1, h.2.2.1, h.2.2.2]
theorem outB_step (A : Nat → Nat) (hA : ∀ j, A j < 256) (k : Nat) : outB A (k + 1) = outB A k ++ bigB (wd A k) 4 := by
  unfold outB
  rw [bigB_wd A hA, show 4 * (k + 1) = 4 * k + 1 + 1 + 1 + 1 by omega, List.range_succ, List.range_succ, List.range_succ, List.range_succ]
  simp
theorem outB_all (A : Nat → Nat) : outB A 4 = blkL A := rfl
set_option maxHeartbeats 4000000 in
set_option maxRecDepth 20000 in
theorem pblock_any (b : Nat) (key : List UInt8) (v1 : Value) (l1 : List UInt8) (w : World) (hR : w.rowIs b 99 316 (ciF boxN (wd (nB (schL key))))) (h1 : Bs w v1 l1) (hl : l1.length = 16) : Calls Try.prog 61 #[.pointer (some ⟨b, 0, none⟩), v1] w fun e w' => ∃ v, e = .returned v ∧ Bs w' v (aesL key l1) ∧ Below w.heap.size w w' := by
  have Bw0 := Below.refl w.heap.size w
  have HGS : Hid (∀ wq : World, Below w.heap.size w wq → w.heap.size ≤ wq.heap.size) := Lib.hid fun wq h => h.size
  have HR := Lib.hid hR
  have HF1 := Lib.hid h1
  have HL := Lib.hid hl
  obtain ⟨WV, hWV⟩ : ∃ W, W = nB (schL key) := ⟨_, rfl⟩
  obtain ⟨RES, hRES⟩ : ∃ R, R = aesL key l1 := ⟨_, rfl⟩
  rw [← hRES]
  have HRES : Hid (RES = blkL (stN (nB l1) WV 14)) := Lib.hid (by rw [hRES, hWV]; rfl)
  rw [← hWV] at HR
  have HWL : Hid (∀ j, WV j < 256) := Lib.hid (by rw [hWV]; exact nB_lt _)
  have HCW : Hid (∀ j, j < 60 → ciF boxN (wd WV) (256 + j) = .int .u32 ((wd WV j : Nat) : Int)) := Lib.hid fun j _ => ci_word _ _ j
  have HCB : Hid (∀ j, j < 256 → ciF boxN (wd WV) j = .int .u8 ((boxN j : Nat) : Int)) := Lib.hid fun j hj => ci_box _ _ j hj
  clear hR h1 hl hWV hRES
  go_enter Try.func61, Try.ntmps61
  go_wp2_with (first
    | (have hgo := Bw0; clear hgo
       refine wpList_alloc_row rfl 104 rfl 4 (cF .u32 fun _ => 0) zeroSt ?_
       intro b_t5 w1 lk r_t5 kk
       have l_t5 := zrl HGS Bw0 lk
       have Bw1 := zbt HGS Bw0 kk
       clear Bw0 kk lk))
  go_loopw [11] (fun iv wr => ∃ i : Nat, i ≤ 4 ∧ iv = .int .i64 (i : Int) ∧ wr.rowIs b_t5 104 4 (cF .u32 (upN (wd (nB l1)) (fun _ => 0) i)) ∧ Below w.heap.size w wr) (fun iv _ => 4 - (intOf iv).toNat)
  case atStart => exact ⟨0, by decide, rfl, by rw [upN_zero]; exact r_t5, Bw1⟩
  case round =>
    clear r_t5 Bw1
    obtain ⟨i, hi, rfl, r_t5, Bw0⟩ := hrel
    by_cases hlt : i < 4
    · have hiI : 0 ≤ (i : Int) ∧ (i : Int) < 4 := by omega
      have HI := Lib.hid hlt
      obtain ⟨m, hm⟩ := nat_var (4 * i)
      have hw1 : IntKind.i64.wrap (4 * (i : Int)) = (m : Int) := by rw [IntWalk.i64_in _ (by omega)]; omega
      obtain ⟨x, hx⟩ := nat_var (numB (l1.drop m) 4)
      have HZ : Hid (wd (nB l1) i = x) := Lib.hid (by rw [hx, hm, numB_wd])
      have f_k := HF1.out.below Bw0 (Nat.le_refl _)
      obtain ⟨v_s, f_s, hrs⟩ := dropB f_k m (by rw [HL.out]; omega)
      have HRS := Lib.hid hrs
      have HG : Hid (Calls Try.prog 72 #[v_s] wr fun e w' => e = .returned (.int .u32 (x : Int)) ∧ w' = wr) := Lib.hid (by rw [hx]; exact get32_any _ _ _ f_s)
      clear hm hx hi hlt f_k f_s hrs
      go_wp2_with (first
        | (have hgo := HRS; clear hgo
           refine wpList_value rfl _ (by rw [exec_mkOp]; exact HRS.out _ _ _ _ _ rfl rfl) ?_
           clear HRS)
        | (have hgo := HG; clear hgo
           go_at_call 72
           refine HG.out.mono ?_
           clear HG
           rintro e w5 ⟨rfl, rfl⟩)
        | (have hgo := HZ; clear hgo
           refine wpList_store_c rfl 74 (.tmp 20) (.tmp 19) rfl (upN (wd (nB l1)) (fun _ => 0) (i + 1)) r_t5 HI.out rfl rfl (by kernel_rfl) (upN_stepC _ _ i x 4 HZ.out) ?_
           intro w6 q6 g6
           have Bw1 := zbg HGS Bw0 g6 l_t5
           clear Bw0 g6 r_t5 HZ))
      go_roundw
      case rel => exact ⟨i + 1, HI.out, by have := HI.out; go_num, q6, Bw1⟩
      case measure => (have := HI.out; simp [intOf]; try omega)
    · obtain rfl : i = 4 := by omega
      replace r_t5 := cF_all r_t5
      have K0 : Hid (∀ w1, w1.rowIs b 99 316 (ciF boxN (wd WV)) → Calls Try.prog 76 #[.pointer (some ⟨b, 0, none⟩), .agg (arrOf 4 (cF .u32 (wd (nB l1)))), .int .i64 0] w1 fun e w' => e = .returned (.agg (arrOf 4 (cF .u32 (wd (stN (nB l1) WV 0))))) ∧ Below w1.heap.size w1 w') := Lib.hid fun w1 h =>
        addKey_any b _ (nB l1) WV 0 w1 h HCW.out (nB_lt _) HWL.out (by decide)
      clear hi hlt
      go_wp2_with (first
        | (have hgo := Bw0; clear hgo
           refine wpList_load_as rfl 104 (.tmp 5) rfl 4 (cF .u32 (wd (nB l1))) arrSt r_t5 rfl (by omega) (fun i hi => by rw [Nat.zero_add]) ?_
           have Bw1 := Bw0
           clear Bw0)
        | (have hgo := Bw1; clear hgo
           go_at_call 76
           refine (K0.out _ (zrb HR.out Bw1)).mono ?_
           rintro e w1 ⟨rfl, kk⟩
           replace r_t5 := zrb r_t5 kk
           have Bw2 := zbt HGS Bw1 kk
           clear Bw1 kk)
        | (have hgo := Bw2; clear hgo
           refine wpList_store_as rfl 104 (.tmp 5) (.tmp 24) rfl 4 (cF .u32 (wd (stN (nB l1) WV 0))) arrSt r_t5 rfl rfl (by omega) (fun _ _ => rfl) (fun i hi => putN_whole hi) ?_
           intro w2 q gk
           replace r_t5 := q
           have Bw3 := zbg HGS Bw2 gk l_t5
           clear Bw2 gk q))
      clear K0
      go_loopw [7] (fun iv wr => ∃ n : Nat, n ≤ 13 ∧ iv = .int .i64 ((n + 1 : Nat) : Int) ∧ wr.rowIs b_t5 104 4 (cF .u32 (wd (stN (nB l1) WV n))) ∧ Below w.heap.size w wr) (fun iv _ => 14 - (intOf iv).toNat)
      case atStart => exact ⟨0, by decide, rfl, r_t5, Bw3⟩
      case round =>
        clear r_t5 Bw3
        obtain ⟨n, hn, rfl, r_t5, Bw0⟩ := hrel
        obtain ⟨A, hA⟩ : ∃ A, A = stN (nB l1) WV n := ⟨_, rfl⟩
        have hAL : ∀ j, A j < 256 := by rw [hA]; exact stN_lt _ _ (nB_lt _) HWL.out n
        obtain ⟨k, hk⟩ := nat_var (n + 1)
        obtain ⟨SB, hSB⟩ : ∃ S, S = shN A := ⟨_, rfl⟩
        have hSBL : ∀ j, SB j < 256 := by rw [hSB]; exact shN_lt A
        have H1 : Hid (∀ w1, Calls Try.prog 79 #[.agg (arrOf 4 (cF .u32 (wd A)))] w1 fun e w' => e = .returned (.agg (arrOf 4 (cF .u32 (wd (shR A))))) ∧ Below w1.heap.size w1 w') := Lib.hid fun w1 => shift_any A w1 hAL
        have H2 : Hid (∀ w1, w1.rowIs b 99 316 (ciF boxN (wd WV)) → Calls Try.prog 78 #[.pointer (some ⟨b, 0, none⟩), .agg (arrOf 4 (cF .u32 (wd (shR A))))] w1 fun e w' => e = .returned (.agg (arrOf 4 (cF .u32 (wd SB)))) ∧ Below w1.heap.size w1 w') := Lib.hid fun w1 h => by
          rw [hSB]
          exact subst_any b _ (shR A) w1 h HCB.out (shR_lt A hAL)
        rw [← hA] at r_t5
        rw [← hk]
        by_cases hlt : n < 13
        · have hkI : (k : Int) < 14 := by omega
          obtain ⟨MX, hMX⟩ : ∃ M, M = mixN SB := ⟨_, rfl⟩
          have hMXL : ∀ j, MX j < 256 := by rw [hMX]; exact mixN_lt _ hSBL
          have H3 : Hid (∀ w1, Calls Try.prog 77 #[.agg (arrOf 4 (cF .u32 (wd SB)))] w1 fun e w' => e = .returned (.agg (arrOf 4 (cF .u32 (wd MX)))) ∧ Below w1.heap.size w1 w') := Lib.hid fun w1 => by
            rw [hMX]
            exact mix_any SB w1 hSBL
          have hNX : stN (nB l1) WV (n + 1) = arkN MX WV k := by
            show arkN (if n + 1 < 14 then mixN (shN (stN (nB l1) WV n)) else shN (stN (nB l1) WV n)) WV (n + 1) = _
            rw [if_pos (by omega), ← hA, ← hSB, ← hMX, ← hk]
          obtain ⟨NX, hN⟩ : ∃ N, N = stN (nB l1) WV (n + 1) := ⟨_, rfl⟩
          have H4 : Hid (∀ w1, w1.rowIs b 99 316 (ciF boxN (wd WV)) → Calls Try.prog 76 #[.pointer (some ⟨b, 0, none⟩), .agg (arrOf 4 (cF .u32 (wd MX))), .int .i64 (k : Int)] w1 fun e w' => e = .returned (.agg (arrOf 4 (cF .u32 (wd NX)))) ∧ Below w1.heap.size w1 w') := Lib.hid fun w1 h => by
            rw [hN, hNX]
            exact addKey_any b _ MX WV k w1 h HCW.out hMXL HWL.out (by omega)
          have HN := Lib.hid hN
          obtain ⟨k2, hk2⟩ := nat_var (k + 1)
          have hw1 : IntKind.i64.wrap ((k : Int) + 1) = (k2 : Int) := by rw [IntWalk.i64_in _ (by omega)]; omega
          have HK : Hid (k2 = n + 1 + 1 ∧ n + 1 ≤ 13 ∧ k = n + 1) := Lib.hid (by omega)
          clear hA hAL hk hSB hSBL hMX hMXL hNX hN hk2 hn hlt
          go_wp2_with (first
            | (have hgo := Bw0; clear hgo
               refine wpList_load_as rfl 104 (.tmp 5) rfl 4 (cF .u32 (wd A)) arrSt r_t5 rfl (by omega) (fun i hi => by rw [Nat.zero_add]) ?_
               have Bw1 := Bw0
               clear Bw0)
            | (have hgo := Bw1; clear hgo
               go_at_call 79
               refine (H1.out _).mono ?_
               rintro e w1 ⟨rfl, kk⟩
               replace r_t5 := zrb r_t5 kk
               have Bw2 := zbt HGS Bw1 kk
               clear Bw1 kk)
            | (have hgo := Bw2; clear hgo
               go_at_call 78
               refine (H2.out _ (zrb HR.out Bw2)).mono ?_
               rintro e w2 ⟨rfl, kk⟩
               replace r_t5 := zrb r_t5 kk
               have Bw3 := zbt HGS Bw2 kk
               clear Bw2 kk)
            | (have hgo := Bw3; clear hgo
               go_at_call 77
               refine (H3.out _).mono ?_
               rintro e w3 ⟨rfl, kk⟩
               replace r_t5 := zrb r_t5 kk
               have Bw4 := zbt HGS Bw3 kk
               clear Bw3 kk)
            | (have hgo := Bw4; clear hgo
               go_at_call 76
               refine (H4.out _ (zrb HR.out Bw4)).mono ?_
               rintro e w4 ⟨rfl, kk⟩
               replace r_t5 := zrb r_t5 kk
               have Bw5 := zbt HGS Bw4 kk
               clear Bw4 kk)
            | (have hgo := Bw5; clear hgo
               refine wpList_store_as rfl 104 (.tmp 5) (.tmp 36) rfl 4 (cF .u32 (wd NX)) arrSt r_t5 rfl rfl (by omega) (fun _ _ => rfl) (fun i hi => putN_whole hi) ?_
               intro w5 q gk
               replace r_t5 := q
               have Bw6 := zbg HGS Bw5 gk l_t5
               clear Bw5 gk q))
          go_roundw
          case rel => exact ⟨n + 1, HK.out.2.1, by rw [HK.out.1], by rw [← HN.out]; exact r_t5, Bw6⟩
          case measure => (have := HK.out; simp [intOf]; try omega)
        · have hkI : ¬ (k : Int) < 14 := by omega
          obtain rfl : n = 13 := by omega
          have hNX : stN (nB l1) WV 14 = arkN SB WV 14 := by
            show arkN (if 13 + 1 < 14 then mixN (shN (stN (nB l1) WV 13)) else shN (stN (nB l1) WV 13)) WV (13 + 1) = _
            rw [if_neg (by decide), ← hA, ← hSB]
          obtain ⟨NX, hN⟩ : ∃ N, N = stN (nB l1) WV 14 := ⟨_, rfl⟩
          have H4 : Hid (∀ w1, w1.rowIs b 99 316 (ciF boxN (wd WV)) → Calls Try.prog 76 #[.pointer (some ⟨b, 0, none⟩), .agg (arrOf 4 (cF .u32 (wd SB))), .int .i64 14] w1 fun e w' => e = .returned (.agg (arrOf 4 (cF .u32 (wd NX)))) ∧ Below w1.heap.size w1 w') := Lib.hid fun w1 h => by
            rw [hN, hNX]
            exact addKey_any b _ SB WV 14 w1 h HCW.out hSBL HWL.out (by decide)
          have HN : Hid (RES = blkL NX) := Lib.hid (by rw [hN]; exact HRES.out)
          have HNL : Hid (∀ j, NX j < 256) := Lib.hid (by rw [hN]; exact stN_lt _ _ (nB_lt _) HWL.out 14)
          clear hA hAL hk hSB hSBL hNX hN hn hlt HRES
          go_wp2_with (first
            | (have hgo := Bw0; clear hgo
               refine wpList_load_as rfl 104 (.tmp 5) rfl 4 (cF .u32 (wd A)) arrSt r_t5 rfl (by omega) (fun i hi => by rw [Nat.zero_add]) ?_
               have Bw1 := Bw0
               clear Bw0)
            | (have hgo := Bw1; clear hgo
               go_at_call 79
               refine (H1.out _).mono ?_
               rintro e w1 ⟨rfl, kk⟩
               replace r_t5 := zrb r_t5 kk
               have Bw2 := zbt HGS Bw1 kk
               clear Bw1 kk)
            | (have hgo := Bw2; clear hgo
               go_at_call 78
               refine (H2.out _ (zrb HR.out Bw2)).mono ?_
               rintro e w2 ⟨rfl, kk⟩
               replace r_t5 := zrb r_t5 kk
               have Bw3 := zbt HGS Bw2 kk
               clear Bw2 kk)
            | (have hgo := Bw3; clear hgo
               go_at_call 76
               refine (H4.out _ (zrb HR.out Bw3)).mono ?_
               rintro e w3 ⟨rfl, kk⟩
               replace r_t5 := zrb r_t5 kk
               have Bw4 := zbt HGS Bw3 kk
               clear Bw3 kk)
            | (have hgo := Bw4; clear hgo
               refine wpList_store_as rfl 104 (.tmp 5) (.tmp 42) rfl 4 (cF .u32 (wd NX)) arrSt r_t5 rfl rfl (by omega) (fun _ _ => rfl) (fun i hi => putN_whole hi) ?_
               intro w4 q gk
               replace r_t5 := q
               have Bw5 := zbg HGS Bw4 gk l_t5
               clear Bw4 gk q)
            | (have hgo := Bw5; clear hgo
               refine wpList_make0x rfl (.const (.int .i64 16)) rfl 16 rfl (by decide) ?_
               intro b_m v_m w20 lk _ o_m kk
               have hl0 := Nat.le_trans (HGS.out _ Bw5) lk
               replace r_t5 := zrb r_t5 kk
               replace o_m := Owns.lower o_m hl0
               have Bw6 := zbt HGS Bw5 kk
               clear Bw5 kk hl0 lk)
            | (have hgo := Bw6; clear hgo
               refine wpList_load_as rfl 104 (.tmp 5) rfl 4 (cF .u32 (wd NX)) arrSt r_t5 rfl (by omega) (fun i hi => by rw [Nat.zero_add]) ?_
               have Bw7 := Bw6
               clear Bw6))
          clear H1 H2 H4 r_t5
          go_loopw [8, 45] (fun sv iv wr => ∃ (i : Nat) (v : Value), i ≤ 4 ∧ v = sv ∧ iv = .int .i64 (i : Int) ∧ Owns wr w.heap.size v (outB NX i) ∧ Below w.heap.size w wr) (fun _ iv _ => 4 - (intOf iv).toNat)
          case atStart => exact ⟨0, v_m, by decide, rfl, rfl, o_m, Bw7⟩
          case round =>
            clear o_m Bw7
            obtain ⟨i, v, hi, rfl, rfl, hown, Bw0⟩ := hrel
            by_cases hlt : i < 4
            · have hiI : 0 ≤ (i : Int) ∧ (i : Int) < 4 := by omega
              have HI := Lib.hid hlt
              obtain ⟨x, hx⟩ := nat_var (wd NX i)
              have HX : Hid (wd NX i = x) := Lib.hid hx.symm
              have HXL : Hid (x < 2 ^ 32) := Lib.hid (by rw [hx]; exact wd_lt HNL.out i)
              have HST : Hid (outB NX (i + 1) = outB NX i ++ bigB x 4) := Lib.hid (by rw [hx]; exact outB_step NX HNL.out i)
              have HLN : Hid ((outB NX i).length + (bigB x 4).length ≤ 2147483647) := Lib.hid (by rw [outB_len, bigB_len4]; omega)
              clear hx hi hlt
              go_wp2_with (first
                | (have hgo := HX; clear hgo
                   refine wpList_index_c rfl 104 74 (.tmp 44) (.tmp 45) rfl 4 (by kernel_rfl) _ rfl rfl (by kernel_rfl) rfl rfl HI.out HX.out ?_
                   clear HX)
                | (have hgo := Bw0; clear hgo
                   go_at_call 59
                   refine (put32_any x _ HXL.out).mono ?_
                   rintro e w5 ⟨v_p, rfl, f_p, kk⟩
                   replace hown := Owns.belowJ hown kk
                   have Bw1 := zbt HGS Bw0 kk
                   clear Bw0 kk)
                | (have hgo := Bw1; clear hgo
                   refine wpList_appA rfl (.tmp 48) (.tmp 50) rfl w.heap.size _ _ _ (bigB x 4) hown f_p rfl rfl HLN.out (HGS.out _ Bw1) ?_
                   intro v8 w6 o8 g8 ho8
                   have Bw2 := Bw1.grown g8 (HGS.out _ Bw1) (fun j hj => Owns.block hown j hj)
                   rw [← HST.out] at o8
                   clear Bw1 g8 ho8 hown f_p))
              go_roundw
              case rel => exact ⟨i + 1, v8, HI.out, rfl, by have := HI.out; go_num, o8, Bw2⟩
              case measure => (have := HI.out; simp [intOf]; try omega)
            · obtain rfl : i = 4 := by omega
              clear hi hlt
              go_wp2
              go_ret
              refine ⟨_, rfl, ?_, Bw0⟩
              have h := hown.bs
              rw [outB_all] at h
              rw [HN.out]
              exact h
end Go.Proofs.Ytclbfbkbmiijnaa

/- The program's AES: Block, Stream, Crypt. -/
namespace Go.Proofs.Ytclbfbkbmiijnaa
open Go.RowKit Go.Deep
set_option linter.unusedSimpArgs false
set_option linter.unusedVariables false

theorem lb_copy {ops : Array Oper} {Q : Exit → Act → World → Prop} {i : Nat} {r : List (Nat × Option (List Nat))} {R : Nat → World → Prop} {a : Act} {w : World} {o : Oper} (d : Nat) (x y : Operand) (t : TypeId) (hw0 : writers r = []) (ho : ops[i]? = some o) (hd : o.dst = some d)
    (hop : o.op = .call { callee := .builtin .copy, args := #[x, y], argTypes := #[22, 22] }) (ht : o.type = t) (hw : Region.wanted o (yielded ops a.tmps) = true)
    {b m off dLen dCap : Nat} {t' : TypeId} {f : Nat → Value} (hr : w.rowIs b t' m f) {vb : Value} {l : List UInt8} (hB : Bs w vb l) (hx : a.eval x = .slice (some ⟨b, off, none⟩) dLen dCap) (hy : a.eval y = vb) (hfit : off + dLen ≤ m) (n : Nat) (hn : n = Nat.min l.length dLen)
    (h : ∀ w', w'.rowIs b t' m (putN f off n (bytesAt l)) → w.grownBy w' (some b) → LinS Try.prog ops Q r Any (a.put (some d) (.int .i64 (n : Int))) w') :
    LinS Try.prog ops Q ((i, none) :: r) R a w :=
  lins_copy (some d) x y t ho hd hop ht hw hr hB hx hy hfit n hn fun w' h1 h2 _ => ⟨Any, (fun c hc => by rw [hw0] at hc; cases hc), h w' h1 h2⟩
theorem wpList_makeN {ops : Array Oper} {rest : List Oper} {o : Oper} {a : Act} {w : World} {Q : Exit → Act → World → Prop} (hgd : o.guard = none) (x : Operand) (ho : o.op = .makeSlice 22 x x) (n : Nat) (hx : a.eval x = .int .i64 (n : Int)) (hn : n ≤ 2147483647)
    (h : ∀ b w', w.heap.size ≤ b → w'.rowIs b 5 n (cF .u8 fun _ => 0) → Below w.heap.size w w' → wpList Try.prog ops Q rest (a.put o.dst (.slice (some ⟨b, 0, none⟩) n n)) w') : wpList Try.prog ops Q (o :: rest) a w := by
  have hm := run_make_row' (P := Try.prog) 22 5 (.int .u8 0) 1 Try.underlying22 Try.info5 rfl .i64 .i64 n (by omega) (by omega) w
  have hr : (execOp a.eval (mkOp (.makeSlice 22 x x) o.type)).run Try.prog w = .ok (.value (.slice (some ⟨w.heap.size, 0, none⟩) n n)) (w.alloc (.cells (madeCells #[.int .u8 0] n) 5)) := by
    simp [execOp, mkOp, hx, hm, Result.andThen]
  exact wpList_plain hgd fun _ hK => by
    unfold Oper.wp
    rw [exec_mkOp, ho, hr]
    exact hK _ _ (h _ _ (Nat.le_refl _) (World.rowIs_made w (.int .u8 0) n 5) ((Below.refl _ _).alloc (Nat.le_refl _) _))
theorem putcat_to (v : Value) (l m : List UInt8) (w : World) (hv : Bss w v [l, m]) (h : l.length + m.length ≤ 2147483647) : Calls Try.prog 27 #[v] w fun e w' => ∃ v', e = .returned v' ∧ Bs w' v' (l ++ m) ∧ Below w.heap.size w w' := by
  refine (cat_any v [l, m] w hv (by simpa using h)).mono ?_
  rintro e w' ⟨v', rfl, ho, kk⟩
  exact ⟨v', rfl, by simpa using ho.bs, kk⟩
theorem put32_to (n : Nat) (w : World) (hn : n < 2 ^ 32) : Calls Try.prog 59 #[.int .u32 (n : Int)] w fun e w' => ∃ v, e = .returned v ∧ Bs w' v (bigB n 4) ∧ Below w.heap.size w w' := put32_any n w hn
/-- A block more. -/
theorem out_put (F : List UInt8) (blk : List UInt8) (n m k : Nat) (hF : F.length = m) (hb : blk.length = 16) (hm : m < n) (hk : k = Nat.min 16 (n - m)) (j : Nat) (hj : j < n) :
    putN (cF .u8 (nB F)) m k (bytesAt blk) j = cF .u8 (nB (F ++ blk)) j := by
  have hk' : k = if 16 ≤ n - m then 16 else n - m := by rw [hk]; show min 16 (n - m) = _; split <;> omega
  unfold putN cF
  by_cases h : m ≤ j ∧ j < m + k
  · rw [if_pos h]
    have e : j = F.length + (j - m) := by omega
    rw [e, nB_right, hF, Nat.add_sub_cancel_left]
    rfl
  · rw [if_neg h]
    by_cases h1 : j < m
    · rw [nB_left F blk j (by omega)]
    · have h2 : m + 16 ≤ j := by
        split at hk' <;> omega
      rw [nB_out F j (by omega), nB_out (F ++ blk) j (by rw [List.length_append]; omega)]
set_option maxHeartbeats 4000000 in
set_option maxRecDepth 20000 in
theorem pStream_any (v0 : Value) (l0 : List UInt8) (v1 : Value) (l1 : List UInt8) (n : Nat) (w : World) (h0 : Bs w v0 l0) (hl0 : l0.length = 32) (h1 : Bs w v1 l1) (hl1 : l1.length = 12) (hn : n ≤ 1048576) : Calls Try.prog 42 #[v0, v1, .int .i64 (n : Int)] w fun e w' => ∃ v, e = .returned (.tuple #[v, .int .i64 0]) ∧ Bs w' v ((outS l0 l1 ((n + 15) / 16)).take n) ∧ Below w.heap.size w w' := by
  obtain ⟨ad0, n0, c0, rfl, e0, y0, z0, hB0⟩ := h0.shape
  have d0 : n0 = 32 := by omega
  subst d0
  have f_s0 := hB0
  have HF0 := Lib.hid hB0
  have HL0 := Lib.hid hl0
  clear h0 hB0 e0 hl0
  obtain ⟨ad1, n1, c1, rfl, e1, y1, z1, hB1⟩ := h1.shape
  have d1 : n1 = 12 := by omega
  subst d1
  have f_s1 := hB1
  have HF1 := Lib.hid hB1
  have HL1 := Lib.hid hl1
  clear h1 hB1 e1 hl1
  have Bw0 := Below.refl w.heap.size w
  have HGS : Hid (∀ wq : World, Below w.heap.size w wq → w.heap.size ≤ wq.heap.size) := Lib.hid fun wq h => h.size
  have hnI : ¬ (n : Int) < 0 := by omega
  have hnJ : ¬ (1048576 : Int) < (n : Int) := by omega
  have HN := Lib.hid hn
  clear hn
  go_enter Try.func42, Try.ntmps42
  go_wp2_with (first
    | (have hgo := Bw0; clear hgo
       go_at_call 60
       refine (newCipher_any _ l0 _ f_s0 HL0.out).mono ?_
       rintro e w11 ⟨b_c, rfl, l_c, r_c, kk⟩
       replace f_s0 := zfb f_s0 kk
       replace f_s1 := zfb f_s1 kk
       have Bw1 := zbt HGS Bw0 kk
       clear Bw0 kk)
    | (have hgo := Bw1; clear hgo
       refine wpList_makeN rfl (.tmp 29) rfl n rfl (by have := HN.out; omega) ?_
       intro b_g w12 lk r_g kk
       have n_c_g := zrn r_c lk
       have l_g := zrl HGS Bw1 lk
       replace r_c := zrb r_c kk
       have Bw2 := zbt HGS Bw1 kk
       clear Bw1 kk lk))
  clear hnI hnJ f_s0 f_s1
  go_loopw [10] (fun iv wr => ∃ i : Nat, iv = .int .i64 (i : Int) ∧ 16 * i < n + 16 ∧ wr.rowIs b_g 5 n (cF .u8 (nB (outS l0 l1 i))) ∧ wr.rowIs b_c 99 316 (ciF boxN (wd (nB (schL l0)))) ∧ Below w.heap.size w wr) (fun iv _ => 65537 - (intOf iv).toNat)
  case atStart => exact ⟨0, rfl, by omega, r_g, r_c, Bw2⟩
  case round =>
    clear r_g r_c Bw2
    obtain ⟨i, rfl, hi, r_g, r_c, Bw0⟩ := hrel
    obtain ⟨m, hm⟩ := nat_var (16 * i)
    have hN := HN.out
    have hw1 : IntKind.i64.wrap ((i : Int) * 16) = (m : Int) := by rw [IntWalk.i64_in _ (by omega)]; omega
    by_cases hlt : m < n
    · have hltI : (m : Int) < (n : Int) := by omega
      have hil : i < 65536 := by omega
      have hw2 : IntKind.u32.wrap (i : Int) = (i : Int) := by rw [IntKind.wrap_u32]; omega
      have HI32 : Hid (i < 2 ^ 32) := Lib.hid (Nat.lt_trans hil (by decide))
      obtain ⟨i1, hi1⟩ := nat_var (i + 1)
      have hwi : IntKind.i64.wrap ((i : Int) + 1) = (i1 : Int) := by rw [IntWalk.i64_in _ (by omega)]; omega
      have HI1 := Lib.hid hi1
      have HI2 : Hid (16 * (i + 1) < n + 16 ∧ i < 65536) := Lib.hid (by omega)
      have HM : Hid (m < n) := Lib.hid hlt
      have HML : Hid ((outS l0 l1 i).length = m) := Lib.hid (by rw [outS_len, hm])
      have f_n := Bs.drew (HF1.out.below Bw0 (Nat.le_refl _))
      replace r_g := World.rowIs.drew r_g
      replace r_c := World.rowIs.drew r_c
      replace Bw0 := Bw0.drew
      have HW0 : Below wr.drew.heap.size wr.drew wr.drew := Below.refl _ _
      obtain ⟨k, hk⟩ := nat_var (Nat.min 16 (n - m))
      have HK := Lib.hid hk
      clear hm hN hlt hil hi1 hi hk
      go_wp2
      refine lb_start [(0, some []), (1, some []), (2, some []), (3, some [12]), (4, some [11]), (5, some [9]), (6, some []), (7, some [8]), (8, none), (9, none), (10, none), (11, none), (12, none)] (by kernel_rfl) (by kernel_rfl) (by decide) (by kernel_rfl) (fun d _ _ _ _ h => by cases d <;> exact h) ?_
      refine le_rdA 37 (.slice (some ⟨b_g, 0, none⟩) n n) rfl rfl rfl rfl rfl (fun wx => by unfold mkOp; go_simp; all_goals (with_reducible rfl)) ?_
      simp only [Act.put, zA, zB, zC]
      refine le_rdA 38 (.int .i64 (i : Int)) rfl rfl rfl rfl rfl (fun wx => by unfold mkOp; go_simp; all_goals (with_reducible rfl)) ?_
      simp only [Act.put, zA, zB, zC]
      refine le_rdA 39 (.int .i64 (m : Int)) rfl rfl rfl rfl rfl (fun wx => by unfold mkOp; go_simp; all_goals (with_reducible rfl)) ?_
      simp only [Act.put, zA, zB, zC]
      refine lb_rd 40 (.slice (some ⟨b_g, m, none⟩) (n - m) (n - m)) rfl rfl rfl rfl rfl (fun wx hx => exec_sliceAt _ 22 5 _ _ _ m (by kernel_rfl) (by kernel_rfl) rfl rfl rfl (Nat.le_of_lt HM.out) HM.out rfl rfl (Nat.zero_add m).symm) ?_
      simp only [Act.put, zA, zB, zC]
      refine lb_rd 41 (.pointer (some ⟨b_c, 0, none⟩)) rfl rfl rfl rfl rfl (fun wx hx => by unfold mkOp; go_simp; all_goals (with_reducible rfl)) ?_
      simp only [Act.put, zA, zB, zC]
      refine lb_rd 42 (.slice ad1 12 c1) rfl rfl rfl rfl rfl (fun wx hx => by unfold mkOp; go_simp; all_goals (with_reducible rfl)) ?_
      simp only [Act.put, zA, zB, zC]
      refine le_rdA 43 (.int .i64 (i : Int)) rfl rfl rfl rfl rfl (fun wx => by unfold mkOp; go_simp; all_goals (with_reducible rfl)) ?_
      simp only [Act.put, zA, zB, zC]
      refine lb_rd 44 (.int .u32 (i : Int)) rfl rfl rfl rfl rfl (fun wx hx => by unfold mkOp; go_simp; all_goals (with_reducible rfl)) ?_
      simp only [Act.put, zA, zB, zC]
      refine lb_call 45 HW0 (put32_to i _ HI32.out) rfl rfl rfl rfl Try.func59 (by kernel_rfl) (by kernel_rfl) (by go_simp) ?_
      intro v_c w5 f_c kk
      replace r_g := zrb r_g kk
      replace r_c := zrb r_c kk
      replace f_n := zfb f_n kk
      have HW1 := HW0.trans (kk.mono HW0.size)
      have Bw1 := zbt HGS Bw0 kk
      clear Bw0 HW0 kk
      simp only [Act.put, zA, zB, zC]
      refine lb_rows2 46 (.tmp 42) (.tmp 45) HW1 rfl rfl rfl rfl rfl f_n f_c rfl rfl ?_
      intro v_r w6 F_r kk
      replace r_g := zrb r_g kk
      replace r_c := zrb r_c kk
      replace f_n := zfb f_n kk
      have HW2 := HW1.trans (kk.mono HW1.size)
      have Bw2 := zbt HGS Bw1 kk
      clear Bw1 HW1 kk
      simp only [Act.put, zA, zB, zC]
      refine lb_call 47 HW2 (putcat_to _ _ _ _ F_r (by rw [HL1.out, bigB_len4]; decide)) rfl rfl rfl rfl Try.func27 (by kernel_rfl) (by kernel_rfl) (by go_simp) ?_
      intro v_m w7 f_m kk
      replace r_g := zrb r_g kk
      replace r_c := zrb r_c kk
      replace f_n := zfb f_n kk
      have HW3 := HW2.trans (kk.mono HW2.size)
      have Bw3 := zbt HGS Bw2 kk
      clear Bw2 HW2 kk
      simp only [Act.put, zA, zB, zC]
      refine lb_call 48 HW3 (pblock_any b_c l0 _ _ _ r_c f_m (by rw [List.length_append, HL1.out, bigB_len4])) rfl rfl rfl rfl Try.func61 (by kernel_rfl) (by kernel_rfl) (by go_simp) ?_
      intro v_b w8 f_b kk
      replace r_g := zrb r_g kk
      replace r_c := zrb r_c kk
      replace f_n := zfb f_n kk
      have HW4 := HW3.trans (kk.mono HW3.size)
      have Bw4 := zbt HGS Bw3 kk
      clear Bw3 HW3 kk
      simp only [Act.put, zA, zB, zC]
      refine lb_copy 49 (.tmp 40) (.tmp 48) _ rfl rfl rfl rfl rfl rfl r_g f_b rfl rfl (by have := HM.out; omega) k (by rw [aesL_len]; exact HK.out) ?_
      intro w9 q9 g9
      replace q9 := q9.congr (out_put (outS l0 l1 i) _ n m k HML.out (aesL_len _ _) HM.out HK.out)
      replace r_c := gb_rowIs r_c g9 n_c_g
      have Bw9 := zbg HGS Bw4 g9 l_g
      simp only [Act.put, zA, zB, zC]
      refine le_end ?_
      clear hw1 hw2 hltI Bw4 HW4 g9 f_n f_b r_g
      go_wp2
      go_roundw
      case rel => exact ⟨i + 1, by rw [HI1.out], HI2.out.1, q9, r_c, Bw9⟩
      case measure => (have := HI1.out; have := HI2.out; simp [intOf]; try omega)
    · have hltI : ¬ (m : Int) < (n : Int) := by omega
      have hfin : (n + 15) / 16 = i := by omega
      have hol : (outS l0 l1 i).length = 16 * i := outS_len _ _ _
      have hB : Bs wr (.slice (some ⟨b_g, 0, none⟩) ((outS l0 l1 i).take n).length n) ((outS l0 l1 i).take n) := by
        refine Bs.of_rowIs r_g _ (by rw [List.length_take]; exact Nat.min_le_left _ _) (by unfold maxLen; omega) fun j hj => ?_
        rw [List.length_take] at hj
        unfold cF nB
        rw [List.getD_eq_getElem?_getD, List.getElem?_eq_getElem (by omega), List.getElem_take]
        rfl
      rw [List.length_take, Nat.min_eq_left (by omega)] at hB
      rw [← hfin] at hB
      clear hm hN hlt hfin hol hi
      go_wp2
      go_ret2
      exact ⟨_, rfl, hB, Bw0⟩
set_option maxHeartbeats 4000000 in
set_option maxRecDepth 20000 in
theorem pCrypt_any (v0 : Value) (l0 : List UInt8) (v1 : Value) (l1 : List UInt8) (v2 : Value) (l2 : List UInt8) (w : World) (h0 : Bs w v0 l0) (hl0 : l0.length = 32) (h1 : Bs w v1 l1) (hl1 : l1.length = 12) (h2 : Bs w v2 l2) (hn : l2.length ≤ 1048576) : Calls Try.prog 26 #[v0, v1, v2] w fun e w' => ∃ v, e = .returned (.tuple #[v, .int .i64 0]) ∧ Bs w' v (xorB l2 ((outS l0 l1 ((l2.length + 15) / 16)).take l2.length)) ∧ Below w.heap.size w w' := by
  obtain ⟨ad2, n2, c2, rfl, e2, y2, z2, hB2⟩ := h2.shape
  have f_s0 := h0
  have f_s1 := h1
  have f_s2 := hB2
  have HL0 := Lib.hid hl0
  have HL1 := Lib.hid hl1
  have HE := Lib.hid e2
  have HN := Lib.hid hn
  have Bw0 := Below.refl w.heap.size w
  have HGS : Hid (∀ wq : World, Below w.heap.size w wq → w.heap.size ≤ wq.heap.size) := Lib.hid fun wq h => h.size
  clear h0 h1 h2 hB2 hl0 hl1 hn e2
  go_enter Try.func26, Try.ntmps26
  go_wp2_with (first
    | (have hgo := Bw0; clear hgo
       go_at_call 42
       refine (pStream_any _ l0 _ l1 n2 _ f_s0 HL0.out f_s1 HL1.out (by rw [← HE.out]; exact HN.out)).mono ?_
       rintro e w11 ⟨v_s, rfl, f_s, kk⟩
       replace f_s2 := zfb f_s2 kk
       have Bw1 := zbt HGS Bw0 kk
       clear Bw0 kk)
    | (have hgo := Bw1; clear hgo
       go_at_call 43
       refine (xor_any _ _ l2 _ _ f_s2 f_s (.inl (Nat.le_trans HN.out (by decide)))).mono ?_
       rintro e w12 ⟨v_x, rfl, f_x, kk⟩
       have Bw2 := zbt HGS Bw1 kk
       clear Bw1 kk))
  go_ret2
  rw [HE.out]
  exact ⟨_, rfl, f_x, Bw2⟩
end Go.Proofs.Ytclbfbkbmiijnaa

/- AES: the example, by the kernel. -/
namespace Go.Proofs.Ytclbfbkbmiijnaa
open Go.RowKit Go.Deep
set_option linter.unusedSimpArgs false
set_option linter.unusedVariables false

end Go.Proofs.Ytclbfbkbmiijnaa

/- missivealike.Sum, missivealike.All: how many bytes rows have, held. -/
set_option linter.unusedSimpArgs false
set_option linter.unusedVariables false
namespace Go.Proofs.Ytclbfbkbmiijnaa
open Go.RowKit Go.Deep

/-- The slice value v reads as the ints xs, none of which is negative. -/
def Ns (w : World) (v : Value) (xs : List Nat) : Prop :=
  ∃ (b off cap : Nat), v = .slice (some ⟨b, off, none⟩) xs.length cap ∧ b < w.heap.size ∧ ∀ i (h : i < xs.length), w.cell? ⟨b, off + i, none⟩ = some (.int .i64 (xs[i] : Int))

theorem Ns.two (w : World) (x y : Nat) : Ns (w.alloc (.cells #[.int .i64 (x : Int), .int .i64 (y : Int)] 3)) (.slice (some ⟨w.heap.size, 0, none⟩) 2 2) [x, y] := by
  refine ⟨_, _, _, rfl, by simp, fun i hi => ?_⟩
  match i, hi with
  | 0, _ => exact World.cell?_alloc_mark w _ 3 (0, 0) 0
  | 1, _ => exact World.cell?_alloc_mark w _ 3 (0, 0) 1

end Go.Proofs.Ytclbfbkbmiijnaa

/- missivealike.Cat; All and Round by their texts. -/
set_option linter.unusedSimpArgs false
set_option linter.unusedVariables false
namespace Go.Proofs.Ytclbfbkbmiijnaa
open Go.RowKit Go.Deep

end Go.Proofs.Ytclbfbkbmiijnaa

/- AES: what is answered, refused or not. -/
namespace Go.Proofs.Ytclbfbkbmiijnaa
open Go.RowKit Go.Deep
set_option linter.unusedSimpArgs false
set_option linter.unusedVariables false

theorem exec_str_yes {w : World} (ρ : Operand → Value) (x y : Operand) (t : TypeId) {l m : List UInt8} (h : l = m) (hx : ρ x = .string ⟨l.toArray⟩) (hy : ρ y = .string ⟨m.toArray⟩) :
    (execOp ρ (mkOp (.binOp .eql 9 x y 9) t)).run Try.prog w = .ok (.value (.bool true)) w := by
  subst h
  simp only [execOp, mkOp, hx, hy]
  all_goals go_simp
theorem exec_neqstr {w : World} (ρ : Operand → Value) (x y : Operand) (t : TypeId) (l : List UInt8) (hx : ρ x = .string ⟨l.toArray⟩) (hy : ρ y = .string ⟨l.toArray⟩) : (execOp ρ (mkOp (.binOp .neq 9 x y 9) t)).run Try.prog w = .ok (.value (.bool false)) w := by
  simp only [execOp, mkOp, hx, hy]
  go_simp
def okB (l0 l1 : List UInt8) : Prop := l0.length = 32 ∧ l1.length = 16
instance (l0 l1 : List UInt8) : Decidable (okB l0 l1) := inferInstanceAs (Decidable (_ ∧ _))
def okS (l0 l1 : List UInt8) (n : Int) : Prop := l0.length = 32 ∧ l1.length = 12 ∧ 0 ≤ n ∧ n ≤ 1048576
instance (l0 l1 : List UInt8) (n : Int) : Decidable (okS l0 l1 n) := inferInstanceAs (Decidable (_ ∧ _ ∧ _ ∧ _))
theorem xorB_twice (a s : List UInt8) (h : s.length = a.length) : xorB (xorB a s) s = a := by
  unfold xorB
  apply List.ext_getElem
  · simp [h]
  · intro i h1 h2
    simp only [List.getElem_zipWith]
    rw [UInt8.xor_assoc, UInt8.xor_self, UInt8.xor_zero]
theorem exec_makeN {w : World} (ρ : Operand → Value) (x : Operand) (t : TypeId) (n : Nat) (hx : ρ x = .int .i64 (n : Int)) (hn : n ≤ 2147483647) : (execOp ρ (mkOp (.makeSlice 22 x x) t)).run Try.prog w = .ok (.value (.slice (some ⟨w.heap.size, 0, none⟩) n n)) (w.alloc (.cells (madeCells #[.int .u8 0] n) 5)) := by
  have hm := run_make_row' (P := Try.prog) 22 5 (.int .u8 0) 1 Try.underlying22 Try.info5 rfl .i64 .i64 n (by omega) (by omega) w
  simp [execOp, mkOp, hx, hm, Result.andThen]
theorem wpList_makeO {ops : Array Oper} {rest : List Oper} {o : Oper} {a : Act} {w : World} {Q : Exit → Act → World → Prop} (hgd : o.guard = none) (x : Operand) (ho : o.op = .makeSlice 22 x x) (n : Nat) (hx : a.eval x = .int .i64 (n : Int)) (hn : n ≤ 2147483647)
    (h : ∀ v w', Bs w' v (List.replicate n 0) → Below w.heap.size w w' → wpList Try.prog ops Q rest (a.put o.dst v) w') : wpList Try.prog ops Q (o :: rest) a w :=
  wpList_plain hgd fun _ hK => by
    unfold Oper.wp
    rw [exec_mkOp, ho, exec_makeN a.eval x o.type n hx hn]
    exact hK _ _ (h _ _ (made_own w n (by unfold maxLen; omega)).bs ((Below.refl _ _).alloc (Nat.le_refl _) _))
end Go.Proofs.Ytclbfbkbmiijnaa

/- The document's boxes. -/
namespace Go.Proofs.Ytclbfbkbmiijnaa
open Go.RowKit Go.Deep
set_option linter.unusedSimpArgs false
set_option linter.unusedVariables false

theorem Bss.fourS {w : World} {v1 v2 v3 v4 : Value} {l1 l2 l3 l4 : List UInt8} (h1 : Bs w v1 l1) (h2 : Bs w v2 l2) (h3 : Bs w v3 l3) (h4 : Bs w v4 l4) {n : Nat} (hn : w.heap.size = n) : Bss (w.alloc (.cells #[v1, v2, v3, v4] 22)) (.slice (some ⟨n, 0, none⟩) 4 4) [l1, l2, l3, l4] := by
  subst hn
  have hb : Below w.heap.size w (w.alloc (.cells #[v1, v2, v3, v4] 22)) := (Below.refl _ _).alloc (Nat.le_refl _) _
  refine ⟨_, 4, rfl, by simp, by simp [maxLen], (fun h => by cases h), fun x hx i hi => ?_⟩
  cases hx
  match i, hi with
  | 0, _ =>
    refine ⟨by simp, v1, ?_, h1.below hb (Nat.le_refl _)⟩
    rw [add_eq]
    exact World.cell?_alloc_mark w #[v1, v2, v3, v4] 22 (0, 0) 0
  | 1, _ =>
    refine ⟨by simp, v2, ?_, h2.below hb (Nat.le_refl _)⟩
    rw [add_eq]
    exact World.cell?_alloc_mark w #[v1, v2, v3, v4] 22 (0, 0) 1
  | 2, _ =>
    refine ⟨by simp, v3, ?_, h3.below hb (Nat.le_refl _)⟩
    rw [add_eq]
    exact World.cell?_alloc_mark w #[v1, v2, v3, v4] 22 (0, 0) 2
  | 3, _ =>
    refine ⟨by simp, v4, ?_, h4.below hb (Nat.le_refl _)⟩
    rw [add_eq]
    exact World.cell?_alloc_mark w #[v1, v2, v3, v4] 22 (0, 0) 3
theorem exec_rowsS4 (ρ : Operand → Value) (x y z u : Operand) (t : TypeId) (w : World) {v1 v2 v3 v4 : Value} {l1 l2 l3 l4 : List UInt8} (h1 : Bs w v1 l1) (h2 : Bs w v2 l2) (h3 : Bs w v3 l3) (h4 : Bs w v4 l4) (hx : ρ x = v1) (hy : ρ y = v2) (hz : ρ z = v3) (hu : ρ u = v4) :
    (execOp ρ (mkOp (.buildSlice 57 4 #[(0, x), (1, y), (2, z), (3, u)]) t)).run Try.prog w = .ok (.value (.slice (some ⟨w.heap.size, 0, none⟩) 4 4)) (w.alloc (.cells #[v1, v2, v3, v4] 22)) := by
  obtain ⟨a1, c1, rfl, _⟩ := h1
  obtain ⟨a2, c2, rfl, _⟩ := h2
  obtain ⟨a3, c3, rfl, _⟩ := h3
  obtain ⟨a4, c4, rfl, _⟩ := h4
  simp only [execOp, mkOp, List.map_toArray, List.map_cons, List.map_nil, hx, hy, hz, hu]
  go_simp
theorem Bs.litS (w : World) (l : List UInt8) (fr : Nat × Nat) (n : Nat) (hn : n = l.length) (hm : n ≤ maxLen) : Bs (w.alloc (.cells (u8s l).toArray 5 fr)) (.slice (some ⟨w.heap.size, 0, none⟩) n n) l := by
  subst hn
  refine ⟨_, l.length, rfl, Nat.le_refl _, hm, (fun h => by cases h), fun x hx i hi => ?_⟩
  cases hx
  refine ⟨by show w.heap.size < (w.alloc _).heap.size; simp, ?_⟩
  rw [add_eq, Nat.zero_add]
  refine (World.cell?_alloc_mark w _ _ fr i).trans ?_
  simp [u8s, hi]
theorem lb_rows4 {ops : Array Oper} {Q : Exit → Act → World → Prop} {r : List (Nat × Option (List Nat))} {a : Act} {w W : World} {o : Oper} {i : Nat} {t : TypeId} (d : Nat) (x y z u : Operand) (hW : Below W.heap.size W w) (ho : ops[i]? = some o) (hd : o.dst = some d) (hop : o.op = .buildSlice 57 4 #[(0, x), (1, y), (2, z), (3, u)]) (ht : o.type = t)
    (hw : Region.wanted o (yielded ops a.tmps) = true) {v1 v2 v3 v4 : Value} {l1 l2 l3 l4 : List UInt8} (h1 : Bs w v1 l1) (h2 : Bs w v2 l2) (h3 : Bs w v3 l3) (h4 : Bs w v4 l4) (hx : a.eval x = v1) (hy : a.eval y = v2) (hz : a.eval z = v3) (hu : a.eval u = v4) (h : ∀ v w', Bss w' v [l1, l2, l3, l4] → Below w.heap.size w w' → LinS Try.prog ops Q r (BelU W) (a.put (some d) v) w') : LinS Try.prog ops Q ((i, none) :: r) (BelU W) a w :=
  have hb : Below w.heap.size w (w.alloc (.cells #[v1, v2, v3, v4] 22)) := (Below.refl _ _).alloc (Nat.le_refl _) _
  lins_made (some d) _ t _ _ ho hd hop ht hw (exec_rowsS4 a.eval x y z u t w h1 h2 h3 h4 hx hy hz hu) (BelU W) (fun _ _ => ⟨hW.trans (hb.mono hW.size), fun _ h => h⟩) (h _ _ (Bss.fourS h1 h2 h3 h4 rfl) hb)
/-- 'seal'. -/
def sealT : List UInt8 := [115, 101, 97, 108]
def sealC : Array Value := #[.int .u8 115, .int .u8 101, .int .u8 97, .int .u8 108]
theorem exec_sealT (a : Act) (t : TypeId) (w : World) : (execOp a.eval (mkOp (.buildSlice 22 4 #[(0, .const (.int .u8 115)), (1, .const (.int .u8 101)), (2, .const (.int .u8 97)), (3, .const (.int .u8 108))]) t)).run Try.prog w = .ok (.value (.slice (some ⟨w.heap.size, 0, none⟩) 4 4)) (w.alloc (.cells sealC 5)) := by
  unfold sealC
  simp only [execOp, mkOp, List.map_toArray, List.map_cons, List.map_nil, eval_const]
  go_simp
theorem bs_sealT (w : World) : Bs (w.alloc (.cells sealC 5 (4, 5))) (.slice (some ⟨w.heap.size, 0, none⟩) 4 4) sealT := Bs.litS w sealT (4, 5) 4 rfl (by unfold maxLen; omega)
theorem exec_sealCv (a : Act) (x : Operand) (t : TypeId) (w : World) (hx : a.eval x = .slice (some ⟨w.heap.size, 0, none⟩) 4 4) : (execOp a.eval (mkOp (.convert 22 22 x) t)).run Try.prog (w.alloc (.cells sealC 5)) = .ok (.value (.slice (some ⟨w.heap.size, 0, none⟩) 4 4)) (w.alloc (.cells sealC 5 (4, 5))) := by
  have hr := Lib.run_convert_bytes_const (P := Try.prog) w 22 5 sealC 4 4 Try.underlying22 Try.underlying5
  rw [show sealC.size = 4 from rfl] at hr
  simp [execOp, mkOp, hx, hr, Result.andThen]
theorem wpList_sealT {ops : Array Oper} {rest : List Oper} {o o' : Oper} {a : Act} {w : World} {Q : Exit → Act → World → Prop} (hgd : o.guard = none) (hgd' : o'.guard = none) (x : Operand) (ho : o.op = .buildSlice 22 4 #[(0, .const (.int .u8 115)), (1, .const (.int .u8 101)), (2, .const (.int .u8 97)), (3, .const (.int .u8 108))]) (ho' : o'.op = .convert 22 22 x) (hx : ∀ v, (a.put o.dst v).eval x = v)
    (h : ∀ v v' w', Bs w' v' sealT → Below w.heap.size w w' → wpList Try.prog ops Q rest ((a.put o.dst v).put o'.dst v') w') : wpList Try.prog ops Q (o :: o' :: rest) a w := by
  exact wpList_plain hgd fun _ hK => by
    unfold Oper.wp
    rw [exec_mkOp, ho, exec_sealT]
    refine hK _ _ (wpList_plain hgd' fun _ hK' => ?_)
    unfold Oper.wp
    rw [exec_mkOp, ho', exec_sealCv _ _ _ _ (hx _)]
    exact hK' _ _ (h _ _ _ (bs_sealT w) ((Below.refl _ _).alloc (Nat.le_refl _) _))
def sealK (key : List UInt8) : List UInt8 := deriveL [] key sealT 64
theorem sealK_len (key : List UInt8) : (sealK key).length = 64 := expandL_length _ _ 64 (by decide)
def sAes (key : List UInt8) : List UInt8 := (sealK key).take 32
def sMac (key : List UInt8) : List UInt8 := (sealK key).drop 32
theorem sAes_len (key : List UInt8) : (sAes key).length = 32 := by unfold sAes; rw [List.length_take, sealK_len]; rfl
theorem sMac_len (key : List UInt8) : (sMac key).length = 32 := by unfold sMac; rw [List.length_drop, sealK_len]
def ctrL (k nonce : List UInt8) (n : Nat) : List UInt8 := (outS k nonce ((n + 15) / 16)).take n
theorem ctrL_len (k nonce : List UInt8) (n : Nat) : (ctrL k nonce n).length = n := by unfold ctrL; rw [List.length_take, outS_len]; omega
/-- The text crypted; the sum over it; the box. -/
def cryL (key nonce t : List UInt8) : List UInt8 := xorB t (ctrL (sAes key) nonce t.length)
theorem cryL_len (key nonce t : List UInt8) : (cryL key nonce t).length = t.length := by unfold cryL; rw [xorB_length, ctrL_len, Nat.min_self]
theorem cryL_twice (key nonce t : List UInt8) : cryL key nonce (cryL key nonce t) = t := by
  unfold cryL
  have h := cryL_len key nonce t
  unfold cryL at h
  rw [h]
  exact xorB_twice t _ (ctrL_len _ _ _)
def macL (key nonce data c : List UInt8) : List UInt8 := hmac (sMac key) (nonce ++ (bigB data.length 8 ++ (data ++ c)))
theorem macL_len (key nonce data c : List UInt8) : (macL key nonce data c).length = 32 := hmac_length _ _
def boxL (key nonce data text : List UInt8) : List UInt8 := cryL key nonce text ++ macL key nonce data (cryL key nonce text)
theorem boxL_len (key nonce data text : List UInt8) : (boxL key nonce data text).length = text.length + 32 := by unfold boxL; rw [List.length_append, cryL_len, macL_len]
theorem big8_len (n : Nat) : (bigB n 8).length = 8 := by simp [bigB]
theorem refBig8_to (n : Nat) (w : World) (hn : n < 2 ^ 64) : Calls Try.prog 21 #[.int .u64 (n : Int), .int .i64 8] w fun e w' => ∃ v, e = .returned v ∧ Bs w' v (bigB n 8) ∧ Below w.heap.size w w' := refBig_any n 8 w hn (by decide) (by decide)
theorem refCat4_to (v : Value) (l m n k : List UInt8) (w : World) (hv : Bss w v [l, m, n, k]) (h : l.length + m.length + n.length + k.length ≤ 2147483647) : Calls Try.prog 20 #[v] w fun e w' => ∃ v', e = .returned v' ∧ Bs w' v' (l ++ (m ++ (n ++ k))) ∧ Below w.heap.size w w' := by
  refine (refCat_any v [l, m, n, k] w hv (by simp only [List.flatten_cons, List.flatten_nil, List.length_append, List.append_nil]; omega)).mono ?_
  rintro e w' ⟨v', rfl, ho, kk⟩
  exact ⟨v', rfl, by simpa using ho.bs, kk⟩
theorem refMac_to (vk v : Value) (key l m : List UInt8) (w : World) (hk : Bs w vk key) (hv : Bs w v l) (hkl : key.length < 2 ^ 29) (hl : l.length < 2 ^ 29) (hm : hmac key l = m) : Calls Try.prog 19 #[vk, v] w fun e w' => ∃ v', e = .returned v' ∧ Bs w' v' m ∧ Below w.heap.size w w' := by
  refine (refMac_any vk v key l w hk hkl hv hl).mono ?_
  rintro e w' ⟨v', rfl, ho, kk⟩
  rw [hm] at ho
  exact ⟨v', rfl, ho.bs, kk⟩
theorem refSealK_to (vk vi : Value) (key : List UInt8) (w : World) (hk : Bs w vk key) (hkl : key.length = 32) (hi : Bs w vi sealT) : Calls Try.prog 16 #[.slice none 0 0, vk, vi, .int .i64 64] w fun e w' => ∃ v', e = .returned v' ∧ Bs w' v' (sealK key) ∧ Below w.heap.size w w' :=
  refDerive_any _ vk vi [] key sealT 64 w (Bs.nil _) (by decide) hk (by rw [hkl]; decide) hi (by decide) (by decide)
set_option maxHeartbeats 4000000 in
set_option maxRecDepth 20000 in
theorem refSeal_any (v0 : Value) (l0 : List UInt8) (v1 : Value) (l1 : List UInt8) (v2 : Value) (l2 : List UInt8) (v3 : Value) (l3 : List UInt8) (w : World) (h0 : Bs w v0 l0) (h1 : Bs w v1 l1) (h2 : Bs w v2 l2) (h3 : Bs w v3 l3) (hl0 : l0.length = 32) (hl1 : l1.length = 12) (ht : l3.length ≤ 65536) (hd : l2.length ≤ 65536) : Calls Try.prog 9 #[v0, v1, v2, v3] w fun e w' => ∃ v, e = .returned (.tuple #[v, .int .i64 0]) ∧ Bs w' v (boxL l0 l1 l2 l3) ∧ Below w.heap.size w w' := by
  obtain ⟨ad0, n0, c0, rfl, e0, y0, z0, hB0⟩ := h0.shape
  obtain ⟨ad1, n1, c1, rfl, e1, y1, z1, hB1⟩ := h1.shape
  obtain ⟨ad2, n2, c2, rfl, e2, y2, z2, hB2⟩ := h2.shape
  obtain ⟨ad3, n3, c3, rfl, e3, y3, z3, hB3⟩ := h3.shape
  have f_0 := hB0
  have f_1 := hB1
  have f_2 := hB2
  have f_3 := hB3
  have H32 := Lib.hid hl0
  have H12 := Lib.hid hl1
  have HE2 := Lib.hid e2
  have HE3 := Lib.hid e3
  have q0 : (n0 : Int) = 32 := by omega
  have q1 : (n1 : Int) = 12 := by omega
  have q2 : ¬ (65536 : Int) < (n3 : Int) := by omega
  have q3 : ¬ (65536 : Int) < (n2 : Int) := by omega
  have hw1 : IntKind.u64.wrap (n2 : Int) = (n2 : Int) := by rw [IntKind.wrap_u64]; omega
  have HN3 : Hid (n3 ≤ 65536 ∧ n2 ≤ 65536) := Lib.hid (by omega)
  have HX3 : Hid (l3.length ≤ 2147480000) := Lib.hid (by omega)
  have HC : Hid (xorB l3 (ctrL (sAes l0) l1 n3) = cryL l0 l1 l3) := Lib.hid (by unfold cryL; rw [e3])
  have HCL : Hid ((cryL l0 l1 l3).length = n3) := Lib.hid (by rw [cryL_len, e3])
  have HBX : Hid (∀ m, m = macL l0 l1 l2 (cryL l0 l1 l3) → cryL l0 l1 l3 ++ m = boxL l0 l1 l2 l3) := Lib.hid fun m hm => by rw [hm]; rfl
  have HM : Hid (hmac (sMac l0) (l1 ++ (bigB n2 8 ++ (l2 ++ cryL l0 l1 l3))) = macL l0 l1 l2 (cryL l0 l1 l3)) := Lib.hid (by unfold macL; rw [e2])
  obtain ⟨CL, hCL⟩ : ∃ C, C = cryL l0 l1 l3 := ⟨_, rfl⟩
  rw [← hCL] at HC HCL HBX HM
  obtain ⟨ML, hML⟩ : ∃ C, C = macL l0 l1 l2 CL := ⟨_, rfl⟩
  rw [← hML] at HM
  have HBX2 := Lib.hid (HBX.out ML hML)
  have Bw0 := Below.refl w.heap.size w
  have HGS : Hid (∀ wq : World, Below w.heap.size w wq → w.heap.size ≤ wq.heap.size) := Lib.hid fun wq h => h.size
  clear h0 h1 h2 h3 hB0 hB1 hB2 hB3 hl0 hl1 e0 e1 e2 e3 ht hd hCL hML HBX
  go_enter Try.func9, Try.ntmps9
  go_wp2_with (first
    | (have hgo := Bw0; clear hgo
       refine wpList_sealT rfl rfl (.tmp 31) rfl rfl (fun _ => rfl) ?_
       intro v_t v_u w1 f_u kk
       replace f_0 := zfb f_0 kk
       replace f_1 := zfb f_1 kk
       replace f_2 := zfb f_2 kk
       replace f_3 := zfb f_3 kk
       have Bw1 := zbt HGS Bw0 kk
       clear Bw0 kk)
    | (have hgo := Bw1; clear hgo
       go_at_call 16
       refine (refSealK_to _ _ l0 _ f_0 H32.out f_u).mono ?_
       rintro e w2 ⟨v_k, rfl, f_k, kk⟩
       replace f_0 := zfb f_0 kk
       replace f_1 := zfb f_1 kk
       replace f_2 := zfb f_2 kk
       replace f_3 := zfb f_3 kk
       have Bw2 := zbt HGS Bw1 kk
       clear Bw1 kk f_u
       obtain ⟨v_a, f_a, hra⟩ := takeB f_k 32 (by rw [sealK_len]; decide)
       have HRA := Lib.hid hra
       clear hra)
    | (have hgo := HRA; clear hgo
       refine wpList_value rfl _ (by rw [exec_mkOp]; exact HRA.out _ _ _ _ _ rfl rfl) ?_
       clear HRA)
    | (have hgo := Bw2; clear hgo
       go_at_call 17
       refine (refStream_any _ (sAes l0) _ l1 n3 _ f_a (sAes_len _) f_1 H12.out (by have := HN3.out; omega)).mono ?_
       rintro e w3 ⟨v_s, rfl, f_s, kk⟩
       replace f_1 := zfb f_1 kk
       replace f_2 := zfb f_2 kk
       replace f_3 := zfb f_3 kk
       replace f_k := zfb f_k kk
       have Bw3 := zbt HGS Bw2 kk
       clear Bw2 kk f_a)
    | (have hgo := Bw3; clear hgo
       go_at_call 18
       refine (refXor_any _ _ l3 (ctrL (sAes l0) l1 n3) _ f_3 f_s HX3.out).mono ?_
       rintro e w4 ⟨v_c, rfl, f_c, kk⟩
       replace f_1 := zfb f_1 kk
       replace f_2 := zfb f_2 kk
       replace f_k := zfb f_k kk
       rw [HC.out] at f_c
       have Bw4 := zbt HGS Bw3 kk
       clear Bw3 kk f_3 f_s))
  clear f_0
  obtain ⟨v_m, f_m, hrm⟩ := dropB f_k 32 (by rw [sealK_len]; decide)
  replace f_m : Bs w4 v_m (sMac l0) := f_m
  clear f_k
  replace f_1 := f_1.drew
  replace f_2 := f_2.drew
  replace f_c := f_c.drew
  replace f_m := f_m.drew
  have Bw5 := Bw4.drew
  clear Bw4
  have HW5 := Below.refl (w4.drew).heap.size (w4.drew)
  refine lb_start [(0, some [13]), (1, some []), (2, some [12]), (3, some [10]), (4, some []), (5, some []), (6, some [7]), (8, some [10]), (9, some [10]), (7, none), (10, none), (11, none), (12, none), (13, none), (14, none), (15, some []), (16, some [])] (by kernel_rfl) (by kernel_rfl) (by decide) (by kernel_rfl) (fun d _ _ _ _ h => by cases d <;> exact h) ?_
  refine lb_rd 46 (v_c) rfl rfl rfl rfl rfl (fun wx hx => by unfold mkOp; go_simp; all_goals (with_reducible rfl)) ?_
  simp only [Act.put, zA, zB, zC]
  refine le_rdA 47 (v_k) rfl rfl rfl rfl rfl (fun wx => by unfold mkOp; go_simp; all_goals (with_reducible rfl)) ?_
  simp only [Act.put, zA, zB, zC]
  refine lb_rd 48 (v_m) rfl rfl rfl rfl rfl (fun wx hx => by exact hrm _ _ _ _ _ rfl rfl) ?_
  simp only [Act.put, zA, zB, zC]
  refine lb_rd 49 (.slice ad1 n1 c1) rfl rfl rfl rfl rfl (fun wx hx => by unfold mkOp; go_simp; all_goals (with_reducible rfl)) ?_
  simp only [Act.put, zA, zB, zC]
  refine le_rdA 50 (.slice ad2 n2 c2) rfl rfl rfl rfl rfl (fun wx => by unfold mkOp; go_simp; all_goals (with_reducible rfl)) ?_
  simp only [Act.put, zA, zB, zC]
  refine le_rdA 51 (.int .i64 (n2 : Int)) rfl rfl rfl rfl rfl (fun wx => by unfold mkOp; go_simp; all_goals (with_reducible rfl)) ?_
  simp only [Act.put, zA, zB, zC]
  refine lb_rd 52 (.int .u64 (n2 : Int)) rfl rfl rfl rfl rfl (fun wx hx => by unfold mkOp; go_simp; all_goals (with_reducible rfl)) ?_
  simp only [Act.put, zA, zB, zC]
  refine lb_rd 54 (.slice ad2 n2 c2) rfl rfl rfl rfl rfl (fun wx hx => by unfold mkOp; go_simp; all_goals (with_reducible rfl)) ?_
  simp only [Act.put, zA, zB, zC]
  refine lb_rd 55 (v_c) rfl rfl rfl rfl rfl (fun wx hx => by unfold mkOp; go_simp; all_goals (with_reducible rfl)) ?_
  simp only [Act.put, zA, zB, zC]
  refine lb_call 53 HW5 (refBig8_to n2 _ (by have := HN3.out; omega)) rfl rfl rfl rfl Try.func21 (by kernel_rfl) (by kernel_rfl) (by go_simp) ?_
  intro v_53 wq53 f_b kk
  replace f_1 := zfb f_1 kk
  replace f_2 := zfb f_2 kk
  replace f_c := zfb f_c kk
  replace f_m := zfb f_m kk
  have HW6 := HW5.trans (kk.mono HW5.size)
  have Bw6 := zbt HGS Bw5 kk
  clear Bw5 HW5 kk
  simp only [Act.put, zA, zB, zC]
  refine lb_rows4 56 (.tmp 49) (.tmp 53) (.tmp 54) (.tmp 55) HW6 rfl rfl rfl rfl rfl f_1 f_b f_2 f_c rfl rfl rfl rfl  ?_
  intro v_56 wq56 F_r kk
  replace f_1 := zfb f_1 kk
  replace f_2 := zfb f_2 kk
  replace f_c := zfb f_c kk
  replace f_m := zfb f_m kk
  have HW7 := HW6.trans (kk.mono HW6.size)
  have Bw7 := zbt HGS Bw6 kk
  clear Bw6 HW6 kk
  simp only [Act.put, zA, zB, zC]
  refine lb_call 57 HW7 (refCat4_to _ _ _ _ _ _ F_r (by rw [big8_len, H12.out, HE2.out, HCL.out]; have := HN3.out; omega)) rfl rfl rfl rfl Try.func20 (by kernel_rfl) (by kernel_rfl) (by go_simp) ?_
  intro v_57 wq57 f_t kk
  replace f_1 := zfb f_1 kk
  replace f_2 := zfb f_2 kk
  replace f_c := zfb f_c kk
  replace f_m := zfb f_m kk
  have HW8 := HW7.trans (kk.mono HW7.size)
  have Bw8 := zbt HGS Bw7 kk
  clear Bw7 HW7 kk
  simp only [Act.put, zA, zB, zC]
  refine lb_call 58 HW8 (refMac_to _ _ (sMac l0) _ ML _ f_m f_t (by rw [sMac_len]; decide) (by rw [List.length_append, List.length_append, List.length_append, big8_len, H12.out, HE2.out, HCL.out]; have := HN3.out; omega) HM.out) rfl rfl rfl rfl Try.func19 (by kernel_rfl) (by kernel_rfl) (by go_simp) ?_
  intro v_58 wq58 f_g kk
  replace f_1 := zfb f_1 kk
  replace f_2 := zfb f_2 kk
  replace f_c := zfb f_c kk
  replace f_m := zfb f_m kk
  have HW9 := HW8.trans (kk.mono HW8.size)
  have Bw9 := zbt HGS Bw8 kk
  clear Bw8 HW8 kk
  simp only [Act.put, zA, zB, zC]
  refine lb_rows2 59 (.tmp 46) (.tmp 58) HW9 rfl rfl rfl rfl rfl f_c f_g rfl rfl  ?_
  intro v_59 wq59 F_q kk
  replace f_1 := zfb f_1 kk
  replace f_2 := zfb f_2 kk
  replace f_c := zfb f_c kk
  replace f_m := zfb f_m kk
  have HW10 := HW9.trans (kk.mono HW9.size)
  have Bw10 := zbt HGS Bw9 kk
  clear Bw9 HW9 kk
  simp only [Act.put, zA, zB, zC]
  refine lb_call 60 HW10 (catK_to _ _ _ _ F_q (by rw [HCL.out, show ML.length = 32 by rw [← HM.out]; exact hmac_length _ _]; have := HN3.out; omega)) rfl rfl rfl rfl Try.func20 (by kernel_rfl) (by kernel_rfl) (by go_simp) ?_
  intro v_60 wq60 f_x kk
  replace f_1 := zfb f_1 kk
  replace f_2 := zfb f_2 kk
  replace f_c := zfb f_c kk
  replace f_m := zfb f_m kk
  have HW11 := HW10.trans (kk.mono HW10.size)
  have Bw11 := zbt HGS Bw10 kk
  clear Bw10 HW10 kk
  simp only [Act.put, zA, zB, zC]
  refine le_rdA 8 (v_60) rfl rfl rfl rfl rfl (fun wx => by unfold mkOp; go_simp; all_goals (with_reducible rfl)) ?_
  simp only [Act.put, zA, zB, zC]
  refine le_rdA 9 (.int .i64 0) rfl rfl rfl rfl rfl (fun wx => by unfold mkOp; go_simp; all_goals (with_reducible rfl)) ?_
  simp only [Act.put, zA, zB, zC]
  refine le_end ?_
  go_wp2
  go_ret2
  rw [HBX2.out] at f_x
  exact ⟨_, rfl, f_x, Bw11⟩
end Go.Proofs.Ytclbfbkbmiijnaa

/- The document's boxes: opened, refused. -/
namespace Go.Proofs.Ytclbfbkbmiijnaa
open Go.RowKit Go.Deep
set_option linter.unusedSimpArgs false
set_option linter.unusedVariables false

theorem exec_str_neqS {w : World} (ρ : Operand → Value) (x y : Operand) (t : TypeId) {l m : List UInt8} {b : Bool} (h : decide (l ≠ m) = b) (hx : ρ x = .string ⟨l.toArray⟩) (hy : ρ y = .string ⟨m.toArray⟩) :
    (execOp ρ (mkOp (.binOp .neq 9 x y 9) t)).run Try.prog w = .ok (.value (.bool b)) w := by
  by_cases e : l = m
  · subst e
    have hb : b = false := by rw [← h]; simp
    subst hb
    simp only [execOp, mkOp, hx, hy]
    go_simp
  · have hb : b = true := by rw [← h]; simp [e]
    subst hb
    simp only [execOp, mkOp, hx, hy]
    go_simp
    all_goals simp [e]
theorem stp_rowsS4 {ops : Array Oper} {Q : Exit → Act → World → Prop} {i : Nat} {r : Stp} {a : Act} {w : World} {o : Oper} (d : Nat) (x y z u : Operand) (ho : ops[i]? = some o) (hd : o.dst = some d) (hop : o.op = .buildSlice 57 4 #[(0, x), (1, y), (2, z), (3, u)]) (hw : Region.wanted o (yielded ops a.tmps) = true)
    {v1 v2 v3 v4 : Value} {l1 l2 l3 l4 : List UInt8} (h1 : Bs w v1 l1) (h2 : Bs w v2 l2) (h3 : Bs w v3 l3) (h4 : Bs w v4 l4) (k1 : a.eval x = v1) (k2 : a.eval y = v2) (k3 : a.eval z = v3) (k4 : a.eval u = v4) (h : ∀ w' v, Bss w' v [l1, l2, l3, l4] → Below w.heap.size w w' → LinT Try.prog ops Q r (a.put (some d) v) w') : wpOp Try.prog ops Q i (fun a' w' => Below w.heap.size w w' ∧ LinT Try.prog ops Q r a' w') a w :=
  have hb : Below w.heap.size w (w.alloc (.cells #[v1, v2, v3, v4] 22)) := (Below.refl _ _).alloc (Nat.le_refl _) _
  stp_made d _ _ _ _ ho hd hop rfl hw (exec_rowsS4 a.eval x y z u _ w h1 h2 h3 h4 k1 k2 k3 k4) hb (h _ _ (Bss.fourS h1 h2 h3 h4 rfl) hb)
/-- Whether a box is Seal's of some text. -/
def tornB (key nonce data box : List UInt8) : Bool := decide (macL key nonce data (box.take (box.length - 32)) ≠ box.drop (box.length - 32))
def openL (key nonce box : List UInt8) : List UInt8 := cryL key nonce (box.take (box.length - 32))
set_option maxHeartbeats 4000000 in
set_option maxRecDepth 20000 in
theorem refSeal_arg (v0 : Value) (l0 : List UInt8) (v1 : Value) (l1 : List UInt8) (v2 : Value) (l2 : List UInt8) (v3 : Value) (l3 : List UInt8) (w : World) (h0 : Bs w v0 l0) (h1 : Bs w v1 l1) (h2 : Bs w v2 l2) (h3 : Bs w v3 l3) (hn : ¬ (l0.length = 32 ∧ l1.length = 12)) : Calls Try.prog 9 #[v0, v1, v2, v3] w fun e w' => e = .returned (.tuple #[.slice none 0 0, .int .i64 1]) ∧ Below w.heap.size w w' := by
  obtain ⟨ad0, n0, c0, rfl, e0, y0, z0, hB0⟩ := h0.shape
  obtain ⟨ad1, n1, c1, rfl, e1, y1, z1, hB1⟩ := h1.shape
  obtain ⟨ad2, n2, c2, rfl, e2, y2, z2, hB2⟩ := h2.shape
  obtain ⟨ad3, n3, c3, rfl, e3, y3, z3, hB3⟩ := h3.shape
  have Bw0 := Below.refl w.heap.size w
  clear h0 h1 h2 h3 hB0 hB1 hB2 hB3
  rcases (show (¬ n0 = 32) ∨ (n0 = 32 ∧ ¬ n1 = 12) by omega) with p0 | ⟨p0, p1⟩
  · have q0 : ¬ (n0 : Int) = 32 := by omega
    clear e0 e1 e2 e3
    go_enter Try.func9, Try.ntmps9
    go_wp2
    go_ret2
    exact ⟨rfl, Bw0⟩
  · have q0 : (n0 : Int) = 32 := by omega
    have q1 : ¬ (n1 : Int) = 12 := by omega
    clear e0 e1 e2 e3
    go_enter Try.func9, Try.ntmps9
    go_wp2
    go_ret2
    exact ⟨rfl, Bw0⟩
set_option maxHeartbeats 4000000 in
set_option maxRecDepth 20000 in
theorem refSeal_big (v0 : Value) (l0 : List UInt8) (v1 : Value) (l1 : List UInt8) (v2 : Value) (l2 : List UInt8) (v3 : Value) (l3 : List UInt8) (w : World) (h0 : Bs w v0 l0) (h1 : Bs w v1 l1) (h2 : Bs w v2 l2) (h3 : Bs w v3 l3) (h32 : l0.length = 32) (h12 : l1.length = 12) (hn : ¬ (l3.length ≤ 65536 ∧ l2.length ≤ 65536)) : Calls Try.prog 9 #[v0, v1, v2, v3] w fun e w' => e = .returned (.tuple #[.slice none 0 0, .int .i64 11]) ∧ Below w.heap.size w w' := by
  obtain ⟨ad0, n0, c0, rfl, e0, y0, z0, hB0⟩ := h0.shape
  obtain ⟨ad1, n1, c1, rfl, e1, y1, z1, hB1⟩ := h1.shape
  obtain ⟨ad2, n2, c2, rfl, e2, y2, z2, hB2⟩ := h2.shape
  obtain ⟨ad3, n3, c3, rfl, e3, y3, z3, hB3⟩ := h3.shape
  have Bw0 := Below.refl w.heap.size w
  clear h0 h1 h2 h3 hB0 hB1 hB2 hB3
  rcases (show (n0 = 32 ∧ n1 = 12 ∧ 65536 < n3) ∨ (n0 = 32 ∧ n1 = 12 ∧ ¬ 65536 < n3 ∧ 65536 < n2) by omega) with ⟨p0, p1, p2⟩ | ⟨p0, p1, p2, p3⟩
  · have q0 : (n0 : Int) = 32 := by omega
    have q1 : (n1 : Int) = 12 := by omega
    have q2 : (65536 : Int) < (n3 : Int) := by omega
    clear e0 e1 e2 e3
    go_enter Try.func9, Try.ntmps9
    go_wp2
    go_ret2
    exact ⟨rfl, Bw0⟩
  · have q0 : (n0 : Int) = 32 := by omega
    have q1 : (n1 : Int) = 12 := by omega
    have q2 : ¬ (65536 : Int) < (n3 : Int) := by omega
    have q3 : (65536 : Int) < (n2 : Int) := by omega
    clear e0 e1 e2 e3
    go_enter Try.func9, Try.ntmps9
    go_wp2
    go_ret2
    exact ⟨rfl, Bw0⟩
set_option maxHeartbeats 4000000 in
set_option maxRecDepth 20000 in
theorem refOpen_arg (v0 : Value) (l0 : List UInt8) (v1 : Value) (l1 : List UInt8) (v2 : Value) (l2 : List UInt8) (v3 : Value) (l3 : List UInt8) (w : World) (h0 : Bs w v0 l0) (h1 : Bs w v1 l1) (h2 : Bs w v2 l2) (h3 : Bs w v3 l3) (hn : ¬ (l0.length = 32 ∧ l1.length = 12)) : Calls Try.prog 11 #[v0, v1, v2, v3] w fun e w' => e = .returned (.tuple #[.slice none 0 0, .int .i64 1]) ∧ Below w.heap.size w w' := by
  obtain ⟨ad0, n0, c0, rfl, e0, y0, z0, hB0⟩ := h0.shape
  obtain ⟨ad1, n1, c1, rfl, e1, y1, z1, hB1⟩ := h1.shape
  obtain ⟨ad2, n2, c2, rfl, e2, y2, z2, hB2⟩ := h2.shape
  obtain ⟨ad3, n3, c3, rfl, e3, y3, z3, hB3⟩ := h3.shape
  have Bw0 := Below.refl w.heap.size w
  clear h0 h1 h2 h3 hB0 hB1 hB2 hB3
  rcases (show (¬ n0 = 32) ∨ (n0 = 32 ∧ ¬ n1 = 12) by omega) with p0 | ⟨p0, p1⟩
  · have q0 : ¬ (n0 : Int) = 32 := by omega
    clear e0 e1 e2 e3
    go_enter Try.func11, Try.ntmps11
    go_wp2
    go_ret2
    exact ⟨rfl, Bw0⟩
  · have q0 : (n0 : Int) = 32 := by omega
    have q1 : ¬ (n1 : Int) = 12 := by omega
    clear e0 e1 e2 e3
    go_enter Try.func11, Try.ntmps11
    go_wp2
    go_ret2
    exact ⟨rfl, Bw0⟩
set_option maxHeartbeats 4000000 in
set_option maxRecDepth 20000 in
theorem refOpen_big (v0 : Value) (l0 : List UInt8) (v1 : Value) (l1 : List UInt8) (v2 : Value) (l2 : List UInt8) (v3 : Value) (l3 : List UInt8) (w : World) (h0 : Bs w v0 l0) (h1 : Bs w v1 l1) (h2 : Bs w v2 l2) (h3 : Bs w v3 l3) (h32 : l0.length = 32) (h12 : l1.length = 12) (hn : ¬ (l3.length ≤ 65568 ∧ l2.length ≤ 65536)) : Calls Try.prog 11 #[v0, v1, v2, v3] w fun e w' => e = .returned (.tuple #[.slice none 0 0, .int .i64 11]) ∧ Below w.heap.size w w' := by
  obtain ⟨ad0, n0, c0, rfl, e0, y0, z0, hB0⟩ := h0.shape
  obtain ⟨ad1, n1, c1, rfl, e1, y1, z1, hB1⟩ := h1.shape
  obtain ⟨ad2, n2, c2, rfl, e2, y2, z2, hB2⟩ := h2.shape
  obtain ⟨ad3, n3, c3, rfl, e3, y3, z3, hB3⟩ := h3.shape
  have Bw0 := Below.refl w.heap.size w
  clear h0 h1 h2 h3 hB0 hB1 hB2 hB3
  rcases (show (n0 = 32 ∧ n1 = 12 ∧ 65568 < n3) ∨ (n0 = 32 ∧ n1 = 12 ∧ ¬ 65568 < n3 ∧ 65536 < n2) by omega) with ⟨p0, p1, p2⟩ | ⟨p0, p1, p2, p3⟩
  · have q0 : (n0 : Int) = 32 := by omega
    have q1 : (n1 : Int) = 12 := by omega
    have q2 : (65568 : Int) < (n3 : Int) := by omega
    clear e0 e1 e2 e3
    go_enter Try.func11, Try.ntmps11
    go_wp2
    go_ret2
    exact ⟨rfl, Bw0⟩
  · have q0 : (n0 : Int) = 32 := by omega
    have q1 : (n1 : Int) = 12 := by omega
    have q2 : ¬ (65568 : Int) < (n3 : Int) := by omega
    have q3 : (65536 : Int) < (n2 : Int) := by omega
    clear e0 e1 e2 e3
    go_enter Try.func11, Try.ntmps11
    go_wp2
    go_ret2
    exact ⟨rfl, Bw0⟩
set_option maxHeartbeats 4000000 in
set_option maxRecDepth 20000 in
theorem refOpen_short (v0 : Value) (l0 : List UInt8) (v1 : Value) (l1 : List UInt8) (v2 : Value) (l2 : List UInt8) (v3 : Value) (l3 : List UInt8) (w : World) (h0 : Bs w v0 l0) (h1 : Bs w v1 l1) (h2 : Bs w v2 l2) (h3 : Bs w v3 l3) (h32 : l0.length = 32) (h12 : l1.length = 12) (hd : l2.length ≤ 65536) (hn : l3.length < 32) : Calls Try.prog 11 #[v0, v1, v2, v3] w fun e w' => e = .returned (.tuple #[.slice none 0 0, .int .i64 2]) ∧ Below w.heap.size w w' := by
  obtain ⟨ad0, n0, c0, rfl, e0, y0, z0, hB0⟩ := h0.shape
  obtain ⟨ad1, n1, c1, rfl, e1, y1, z1, hB1⟩ := h1.shape
  obtain ⟨ad2, n2, c2, rfl, e2, y2, z2, hB2⟩ := h2.shape
  obtain ⟨ad3, n3, c3, rfl, e3, y3, z3, hB3⟩ := h3.shape
  have Bw0 := Below.refl w.heap.size w
  clear h0 h1 h2 h3 hB0 hB1 hB2 hB3
  have q0 : (n0 : Int) = 32 := by omega
  have q1 : (n1 : Int) = 12 := by omega
  have q2 : ¬ (65568 : Int) < (n3 : Int) := by omega
  have q3 : ¬ (65536 : Int) < (n2 : Int) := by omega
  have q4 : (n3 : Int) < 32 := by omega
  clear e0 e1 e2 e3
  go_enter Try.func11, Try.ntmps11
  go_wp2
  go_ret2
  exact ⟨rfl, Bw0⟩
set_option maxHeartbeats 4000000 in
set_option maxRecDepth 20000 in
theorem refOpen_any (v0 : Value) (l0 : List UInt8) (v1 : Value) (l1 : List UInt8) (v2 : Value) (l2 : List UInt8) (v3 : Value) (l3 : List UInt8) (w : World) (h0 : Bs w v0 l0) (h1 : Bs w v1 l1) (h2 : Bs w v2 l2) (h3 : Bs w v3 l3) (hl0 : l0.length = 32) (hl1 : l1.length = 12) (ht : l3.length ≤ 65568) (hs : 32 ≤ l3.length) (hd : l2.length ≤ 65536) : Calls Try.prog 11 #[v0, v1, v2, v3] w fun e w' => ∃ v, e = .returned (.tuple #[v, .int .i64 (if tornB l0 l1 l2 l3 = true then 2 else 0)]) ∧ Bs w' v (if tornB l0 l1 l2 l3 = true then [] else openL l0 l1 l3) ∧ Below w.heap.size w w' := by
  obtain ⟨ad0, n0, c0, rfl, e0, y0, z0, hB0⟩ := h0.shape
  obtain ⟨ad1, n1, c1, rfl, e1, y1, z1, hB1⟩ := h1.shape
  obtain ⟨ad2, n2, c2, rfl, e2, y2, z2, hB2⟩ := h2.shape
  obtain ⟨ad3, n3, c3, rfl, e3, y3, z3, hB3⟩ := h3.shape
  have f_0 := hB0
  have f_1 := hB1
  have f_2 := hB2
  have f_3 := hB3
  have H32 := Lib.hid hl0
  have H12 := Lib.hid hl1
  have HE2 := Lib.hid e2
  have HE3 := Lib.hid e3
  have q0 : (n0 : Int) = 32 := by omega
  have q1 : (n1 : Int) = 12 := by omega
  have q2 : ¬ (65568 : Int) < (n3 : Int) := by omega
  have q3 : ¬ (65536 : Int) < (n2 : Int) := by omega
  have q4 : ¬ (n3 : Int) < 32 := by omega
  have hw1 : IntKind.u64.wrap (n2 : Int) = (n2 : Int) := by rw [IntKind.wrap_u64]; omega
  obtain ⟨k, hk⟩ := nat_var (n3 - 32)
  have hw2 : IntKind.i64.wrap ((n3 : Int) - 32) = (k : Int) := by rw [IntWalk.i64_in _ (by omega)]; omega
  have HN3 : Hid (n3 ≤ 65568 ∧ n2 ≤ 65536 ∧ k ≤ 65536) := Lib.hid (by omega)
  have HK : Hid (k ≤ l3.length) := Lib.hid (by omega)
  obtain ⟨b, hb⟩ : ∃ b, b = tornB l0 l1 l2 l3 := ⟨_, rfl⟩
  obtain ⟨c, hc⟩ : ∃ c, c = l3.take k := ⟨_, rfl⟩
  have HCC := Lib.hid hc
  have hcl : c.length = k := by rw [hc, List.length_take]; omega
  have HCL := Lib.hid hcl
  have HX3 : Hid (c.length ≤ 2147480000) := Lib.hid (by omega)
  have HO : Hid (xorB c (ctrL (sAes l0) l1 k) = openL l0 l1 l3) := Lib.hid (by unfold openL cryL; rw [e3, ← hk, ← hc, hcl])
  have HM : Hid (hmac (sMac l0) (l1 ++ (bigB n2 8 ++ (l2 ++ c))) = macL l0 l1 l2 c) := Lib.hid (by unfold macL; rw [e2])
  have hbb : decide (macL l0 l1 l2 c ≠ l3.drop k) = b := by rw [hb]; unfold tornB; rw [e3, ← hk, ← hc]
  obtain ⟨ML, hML⟩ : ∃ C, C = macL l0 l1 l2 c := ⟨_, rfl⟩
  rw [← hML] at HM hbb
  have HBB := Lib.hid hbb
  rw [← hb]
  have Bw0 := Below.refl w.heap.size w
  have HGS : Hid (∀ wq : World, Below w.heap.size w wq → w.heap.size ≤ wq.heap.size) := Lib.hid fun wq h => h.size
  clear h0 h1 h2 h3 hB0 hB1 hB2 hB3 hl0 hl1 e0 e1 e2 e3 ht hs hd hML hbb hb hc hcl hk
  obtain ⟨v_c, f_c, hrc⟩ := takeB f_3 k HK.out
  rw [← HCC.out] at f_c
  have HRC := Lib.hid hrc
  clear hrc
  go_enter Try.func11, Try.ntmps11
  go_wp2_with (first
    | (have hgo := HRC; clear hgo
       refine wpList_value rfl _ (by rw [exec_mkOp]; exact HRC.out _ _ _ _ _ rfl rfl) ?_
       clear HRC)
    | (have hgo := Bw0; clear hgo
       refine wpList_sealT rfl rfl (.tmp 39) rfl rfl (fun _ => rfl) ?_
       intro v_t v_u w1 f_u kk
       replace f_0 := zfb f_0 kk
       replace f_1 := zfb f_1 kk
       replace f_2 := zfb f_2 kk
       replace f_3 := zfb f_3 kk
       replace f_c := zfb f_c kk
       have Bw1 := zbt HGS Bw0 kk
       clear Bw0 kk)
    | (have hgo := Bw1; clear hgo
       go_at_call 16
       refine (refSealK_to _ _ l0 _ f_0 H32.out f_u).mono ?_
       rintro e w2 ⟨v_k, rfl, f_k, kk⟩
       replace f_0 := zfb f_0 kk
       replace f_1 := zfb f_1 kk
       replace f_2 := zfb f_2 kk
       replace f_3 := zfb f_3 kk
       replace f_c := zfb f_c kk
       have Bw2 := zbt HGS Bw1 kk
       clear Bw1 kk f_u))
  clear f_0
  obtain ⟨v_m, f_m, hrm⟩ := dropB f_k 32 (by rw [sealK_len]; decide)
  replace f_m : Bs w2 v_m (sMac l0) := f_m
  obtain ⟨v_a, f_a, hra⟩ := takeB f_k 32 (by rw [sealK_len]; decide)
  replace f_a : Bs w2 v_a (sAes l0) := f_a
  have HRA := Lib.hid hra
  obtain ⟨v_e, f_e, hre⟩ := dropB f_3 k HK.out
  clear f_k hra
  replace f_1 := f_1.drew
  replace f_2 := f_2.drew
  replace f_c := f_c.drew
  replace f_m := f_m.drew
  replace f_a := f_a.drew
  replace f_e := f_e.drew
  have Bw3 := Bw2.drew
  clear Bw2
  refine wp_region_lint (.rd 0 (.rd 1 (.rd 2 (.rd 3 (.rd 4 (.rd 5 (.rd 7 (.rd 8 (.rd 13 (.rd 14 (.rd 15 (.rd 16 (.rd 17 (.rd 18 (.wr 6 (.wr 9 (.wr 10 (.wr 11 (.rd 12 (.rd 19 .done)))))))))))))))))))) (by kernel_rfl) (by kernel_rfl) (by decide) (by kernel_rfl) (fun d _ _ _ _ h => by cases d <;> exact h) ?_
  refine lint_pure 42 _ _ (v_k) rfl rfl rfl rfl rfl (fun wx hx => by unfold mkOp; go_simp; all_goals (with_reducible rfl)) ?_
  simp only [Act.put, zA, zB, zC]
  refine lint_pure 43 _ _ (v_m) rfl rfl rfl rfl rfl (fun wx hx => by exact hrm _ _ _ _ _ rfl rfl) ?_
  simp only [Act.put, zA, zB, zC]
  refine lint_pure 44 _ _ (.slice ad1 n1 c1) rfl rfl rfl rfl rfl (fun wx hx => by unfold mkOp; go_simp; all_goals (with_reducible rfl)) ?_
  simp only [Act.put, zA, zB, zC]
  refine lint_pure 45 _ _ (.slice ad2 n2 c2) rfl rfl rfl rfl rfl (fun wx hx => by unfold mkOp; go_simp; all_goals (with_reducible rfl)) ?_
  simp only [Act.put, zA, zB, zC]
  refine lint_pure 46 _ _ (.int .i64 (n2 : Int)) rfl rfl rfl rfl rfl (fun wx hx => by unfold mkOp; go_simp; all_goals (with_reducible rfl)) ?_
  simp only [Act.put, zA, zB, zC]
  refine lint_pure 47 _ _ (.int .u64 (n2 : Int)) rfl rfl rfl rfl rfl (fun wx hx => by unfold mkOp; go_simp; all_goals (with_reducible rfl)) ?_
  simp only [Act.put, zA, zB, zC]
  refine lint_pure 49 _ _ (.slice ad2 n2 c2) rfl rfl rfl rfl rfl (fun wx hx => by unfold mkOp; go_simp; all_goals (with_reducible rfl)) ?_
  simp only [Act.put, zA, zB, zC]
  refine lint_pure 50 _ _ (v_c) rfl rfl rfl rfl rfl (fun wx hx => by unfold mkOp; go_simp; all_goals (with_reducible rfl)) ?_
  simp only [Act.put, zA, zB, zC]
  refine lint_pure 55 _ _ (.slice ad3 n3 c3) rfl rfl rfl rfl rfl (fun wx hx => by unfold mkOp; go_simp; all_goals (with_reducible rfl)) ?_
  simp only [Act.put, zA, zB, zC]
  refine lint_pure 56 _ _ (.slice ad3 n3 c3) rfl rfl rfl rfl rfl (fun wx hx => by unfold mkOp; go_simp; all_goals (with_reducible rfl)) ?_
  simp only [Act.put, zA, zB, zC]
  refine lint_pure 57 _ _ (.int .i64 (n3 : Int)) rfl rfl rfl rfl rfl (fun wx hx => by unfold mkOp; go_simp; all_goals (with_reducible rfl)) ?_
  simp only [Act.put, zA, zB, zC]
  refine lint_pure 58 _ _ (.int .i64 (k : Int)) rfl rfl rfl rfl rfl (fun wx hx => by unfold mkOp; go_simp; all_goals (with_reducible rfl)) ?_
  simp only [Act.put, zA, zB, zC]
  refine lint_pure 59 _ _ (v_e) rfl rfl rfl rfl rfl (fun wx hx => by exact hre _ _ _ _ _ rfl rfl) ?_
  simp only [Act.put, zA, zB, zC]
  refine lint_conv 60 (.tmp 59) _ _ rfl rfl rfl rfl rfl f_e ?_
  simp only [Act.put, zA, zB, zC]
  refine stp_fn 48 21 _ _ _ (refBig8_to n2 _ (by have := HN3.out; omega)) rfl rfl rfl rfl Try.func21 (by kernel_rfl) (by kernel_rfl) (by go_simp) ?_
  rintro e wq48 ⟨v_48, rfl, f_b, kk⟩
  refine ⟨_, rfl, kk, ?_⟩
  replace f_1 := zfb f_1 kk
  replace f_2 := zfb f_2 kk
  replace f_c := zfb f_c kk
  replace f_m := zfb f_m kk
  replace f_a := zfb f_a kk
  replace f_e := zfb f_e kk
  have Bw4 := zbt HGS Bw3 kk
  clear Bw3 kk
  simp only [Act.put, zA, zB, zC]
  refine stp_rowsS4 51 (.tmp 44) (.tmp 48) (.tmp 49) (.tmp 50) rfl rfl rfl rfl f_1 f_b f_2 f_c rfl rfl rfl rfl  ?_
  intro wq51 v_51 F_r kk
  replace f_1 := zfb f_1 kk
  replace f_2 := zfb f_2 kk
  replace f_c := zfb f_c kk
  replace f_m := zfb f_m kk
  replace f_a := zfb f_a kk
  replace f_e := zfb f_e kk
  replace f_b := zfb f_b kk
  have Bw5 := zbt HGS Bw4 kk
  clear Bw4 kk
  simp only [Act.put, zA, zB, zC]
  refine stp_fn 52 20 _ _ _ (refCat4_to _ _ _ _ _ _ F_r (by rw [big8_len, H12.out, HE2.out, HCL.out]; have := HN3.out; omega)) rfl rfl rfl rfl Try.func20 (by kernel_rfl) (by kernel_rfl) (by go_simp) ?_
  rintro e wq52 ⟨v_52, rfl, f_t, kk⟩
  refine ⟨_, rfl, kk, ?_⟩
  replace f_1 := zfb f_1 kk
  replace f_2 := zfb f_2 kk
  replace f_c := zfb f_c kk
  replace f_m := zfb f_m kk
  replace f_a := zfb f_a kk
  replace f_e := zfb f_e kk
  replace f_b := zfb f_b kk
  have Bw6 := zbt HGS Bw5 kk
  clear Bw5 kk
  simp only [Act.put, zA, zB, zC]
  refine stp_fn 53 19 _ _ _ (refMac_to _ _ (sMac l0) _ ML _ f_m f_t (by rw [sMac_len]; decide) (by rw [List.length_append, List.length_append, List.length_append, big8_len, H12.out, HE2.out, HCL.out]; have := HN3.out; omega) HM.out) rfl rfl rfl rfl Try.func19 (by kernel_rfl) (by kernel_rfl) (by go_simp) ?_
  rintro e wq53 ⟨v_53, rfl, f_g, kk⟩
  refine ⟨_, rfl, kk, ?_⟩
  replace f_1 := zfb f_1 kk
  replace f_2 := zfb f_2 kk
  replace f_c := zfb f_c kk
  replace f_m := zfb f_m kk
  replace f_a := zfb f_a kk
  replace f_e := zfb f_e kk
  replace f_b := zfb f_b kk
  replace f_t := zfb f_t kk
  have Bw7 := zbt HGS Bw6 kk
  clear Bw6 kk
  simp only [Act.put, zA, zB, zC]
  refine lint_conv 54 (.tmp 53) _ _ rfl rfl rfl rfl rfl f_g ?_
  simp only [Act.put, zA, zB, zC]
  refine lint_pure 61 _ _ (.bool b) rfl rfl rfl rfl rfl (fun wx hx => by exact exec_str_neqS _ _ _ _ HBB.out rfl rfl) ?_
  simp only [Act.put, zA, zB, zC]
  refine lint_end ?_
  cases b with
  | true =>
    go_wp2
    go_ret2
    exact ⟨_, rfl, Bs.nil _, Bw7⟩
  | false =>
    obtain ⟨ad_c, n_c, c_c, rfl, he, _, _, _⟩ := f_c.shape
    have hn : k = n_c := by rw [← he]; exact HCL.out.symm
    subst hn
    clear he
    go_wp2_with (first
      | (have hgo := HRA; clear hgo
         refine wpList_value rfl _ (by rw [exec_mkOp]; exact HRA.out _ _ _ _ _ rfl rfl) ?_
         clear HRA)
      | (have hgo := Bw7; clear hgo
         go_at_call 17
         refine (refStream_any _ (sAes l0) _ l1 k _ f_a (sAes_len _) f_1 H12.out (by have := HN3.out; omega)).mono ?_
         rintro e w3 ⟨v_s, rfl, f_s, kk⟩
         replace f_c := zfb f_c kk
         have By1 := zbt HGS Bw7 kk
         clear Bw7 kk f_a)
      | (have hgo := By1; clear hgo
         go_at_call 18
         refine (refXor_any _ _ c (ctrL (sAes l0) l1 k) _ f_c f_s HX3.out).mono ?_
         rintro e w4 ⟨v_x, rfl, f_x, kk⟩
         rw [HO.out] at f_x
         have By2 := zbt HGS By1 kk
         clear By1 kk f_s))
    go_ret2
    exact ⟨_, rfl, f_x, By2⟩
end Go.Proofs.Ytclbfbkbmiijnaa

/- Chapter 13: what is answered, refused or not. -/
namespace Go.Proofs.Ytclbfbkbmiijnaa
open Go.RowKit Go.Deep
set_option linter.unusedSimpArgs false
set_option linter.unusedVariables false

def okK (l0 l1 : List UInt8) : Prop := l0.length = 32 ∧ l1.length = 12
instance (l0 l1 : List UInt8) : Decidable (okK l0 l1) := inferInstanceAs (Decidable (_ ∧ _))
def okSz (m : Nat) (l2 l3 : List UInt8) : Prop := l3.length ≤ m ∧ l2.length ≤ 65536
instance (m : Nat) (l2 l3 : List UInt8) : Decidable (okSz m l2 l3) := inferInstanceAs (Decidable (_ ∧ _))
def seE (l0 l1 l2 l3 : List UInt8) : Int := if okK l0 l1 then if okSz 65536 l2 l3 then 0 else 11 else 1
def seL (l0 l1 l2 l3 : List UInt8) : List UInt8 := if okK l0 l1 then if okSz 65536 l2 l3 then boxL l0 l1 l2 l3 else [] else []
def opE (l0 l1 l2 l3 : List UInt8) : Int := if okK l0 l1 then if okSz 65568 l2 l3 then if l3.length < 32 then 2 else if tornB l0 l1 l2 l3 = true then 2 else 0 else 11 else 1
def opL (l0 l1 l2 l3 : List UInt8) : List UInt8 := if okK l0 l1 then if okSz 65568 l2 l3 then if l3.length < 32 then [] else if tornB l0 l1 l2 l3 = true then [] else openL l0 l1 l3 else [] else []
theorem seE_arg {l0 l1 l2 l3 : List UInt8} (h : ¬ okK l0 l1) : seE l0 l1 l2 l3 = 1 ∧ seL l0 l1 l2 l3 = [] := ⟨if_neg h, if_neg h⟩
theorem seE_big {l0 l1 l2 l3 : List UInt8} (h : okK l0 l1) (k : ¬ okSz 65536 l2 l3) : seE l0 l1 l2 l3 = 11 ∧ seL l0 l1 l2 l3 = [] := by
  unfold seE seL
  rw [if_pos h, if_pos h, if_neg k, if_neg k]
  exact ⟨rfl, rfl⟩
theorem seE_ok {l0 l1 l2 l3 : List UInt8} (h : okK l0 l1) (k : okSz 65536 l2 l3) : seE l0 l1 l2 l3 = 0 ∧ seL l0 l1 l2 l3 = boxL l0 l1 l2 l3 := by
  unfold seE seL
  rw [if_pos h, if_pos h, if_pos k, if_pos k]
  exact ⟨rfl, rfl⟩
theorem opE_arg {l0 l1 l2 l3 : List UInt8} (h : ¬ okK l0 l1) : opE l0 l1 l2 l3 = 1 ∧ opL l0 l1 l2 l3 = [] := ⟨if_neg h, if_neg h⟩
theorem opE_big {l0 l1 l2 l3 : List UInt8} (h : okK l0 l1) (k : ¬ okSz 65568 l2 l3) : opE l0 l1 l2 l3 = 11 ∧ opL l0 l1 l2 l3 = [] := by
  unfold opE opL
  rw [if_pos h, if_pos h, if_neg k, if_neg k]
  exact ⟨rfl, rfl⟩
theorem opE_short {l0 l1 l2 l3 : List UInt8} (h : okK l0 l1) (k : okSz 65568 l2 l3) (s : l3.length < 32) : opE l0 l1 l2 l3 = 2 ∧ opL l0 l1 l2 l3 = [] := by
  unfold opE opL
  rw [if_pos h, if_pos h, if_pos k, if_pos k, if_pos s, if_pos s]
  exact ⟨rfl, rfl⟩
theorem opE_ok {l0 l1 l2 l3 : List UInt8} (h : okK l0 l1) (k : okSz 65568 l2 l3) (s : ¬ l3.length < 32) : opE l0 l1 l2 l3 = (if tornB l0 l1 l2 l3 = true then 2 else 0) ∧ opL l0 l1 l2 l3 = (if tornB l0 l1 l2 l3 = true then [] else openL l0 l1 l3) := by
  unfold opE opL
  rw [if_pos h, if_pos h, if_pos k, if_pos k, if_neg s, if_neg s]
  exact ⟨rfl, rfl⟩
theorem rSeal_to (v0 : Value) (l0 : List UInt8) (v1 : Value) (l1 : List UInt8) (v2 : Value) (l2 : List UInt8) (v3 : Value) (l3 : List UInt8) (w : World) (h0 : Bs w v0 l0) (h1 : Bs w v1 l1) (h2 : Bs w v2 l2) (h3 : Bs w v3 l3) : Calls Try.prog 9 #[v0, v1, v2, v3] w fun e w' => ∃ v, e = .returned (.tuple #[v, .int .i64 (seE l0 l1 l2 l3)]) ∧ Bs w' v (seL l0 l1 l2 l3) ∧ Below w.heap.size w w' := by
  by_cases h : okK l0 l1
  · by_cases k : okSz 65536 l2 l3
    · have g := seE_ok h k
      rw [g.1, g.2]
      exact refSeal_any v0 l0 v1 l1 v2 l2 v3 l3 w h0 h1 h2 h3 h.1 h.2 k.1 k.2
    · have g := seE_big h k
      rw [g.1, g.2]
      refine (refSeal_big v0 l0 v1 l1 v2 l2 v3 l3 w h0 h1 h2 h3 h.1 h.2 k).mono ?_
      rintro e w' ⟨rfl, kk⟩
      exact ⟨_, rfl, Bs.nil _, kk⟩
  · have g := seE_arg (l2 := l2) (l3 := l3) h
    rw [g.1, g.2]
    refine (refSeal_arg v0 l0 v1 l1 v2 l2 v3 l3 w h0 h1 h2 h3 h).mono ?_
    rintro e w' ⟨rfl, kk⟩
    exact ⟨_, rfl, Bs.nil _, kk⟩
theorem rOpen_to (v0 : Value) (l0 : List UInt8) (v1 : Value) (l1 : List UInt8) (v2 : Value) (l2 : List UInt8) (v3 : Value) (l3 : List UInt8) (w : World) (h0 : Bs w v0 l0) (h1 : Bs w v1 l1) (h2 : Bs w v2 l2) (h3 : Bs w v3 l3) : Calls Try.prog 11 #[v0, v1, v2, v3] w fun e w' => ∃ v, e = .returned (.tuple #[v, .int .i64 (opE l0 l1 l2 l3)]) ∧ Bs w' v (opL l0 l1 l2 l3) ∧ Below w.heap.size w w' := by
  by_cases h : okK l0 l1
  · by_cases k : okSz 65568 l2 l3
    · by_cases s : l3.length < 32
      · have g := opE_short h k s
        rw [g.1, g.2]
        refine (refOpen_short v0 l0 v1 l1 v2 l2 v3 l3 w h0 h1 h2 h3 h.1 h.2 k.2 s).mono ?_
        rintro e w' ⟨rfl, kk⟩
        exact ⟨_, rfl, Bs.nil _, kk⟩
      · have g := opE_ok h k s
        rw [g.1, g.2]
        exact refOpen_any v0 l0 v1 l1 v2 l2 v3 l3 w h0 h1 h2 h3 h.1 h.2 k.1 (by omega) k.2
    · have g := opE_big h k
      rw [g.1, g.2]
      refine (refOpen_big v0 l0 v1 l1 v2 l2 v3 l3 w h0 h1 h2 h3 h.1 h.2 k).mono ?_
      rintro e w' ⟨rfl, kk⟩
      exact ⟨_, rfl, Bs.nil _, kk⟩
  · have g := opE_arg (l2 := l2) (l3 := l3) h
    rw [g.1, g.2]
    refine (refOpen_arg v0 l0 v1 l1 v2 l2 v3 l3 w h0 h1 h2 h3 h).mono ?_
    rintro e w' ⟨rfl, kk⟩
    exact ⟨_, rfl, Bs.nil _, kk⟩
/-- What was sealed is not torn, and opens. -/
theorem boxL_take (l0 l1 l2 l3 : List UInt8) : (boxL l0 l1 l2 l3).take l3.length = cryL l0 l1 l3 := by
  unfold boxL
  rw [List.take_append_of_le_length (by rw [cryL_len]; exact Nat.le_refl _), List.take_of_length_le (by rw [cryL_len]; exact Nat.le_refl _)]
theorem boxL_drop (l0 l1 l2 l3 : List UInt8) : (boxL l0 l1 l2 l3).drop l3.length = macL l0 l1 l2 (cryL l0 l1 l3) := by
  unfold boxL
  rw [List.drop_append_of_le_length (by rw [cryL_len]; exact Nat.le_refl _), List.drop_of_length_le (by rw [cryL_len]; exact Nat.le_refl _), List.nil_append]
theorem box_whole (l0 l1 l2 l3 : List UInt8) : tornB l0 l1 l2 (boxL l0 l1 l2 l3) = false := by
  unfold tornB
  rw [boxL_len, Nat.add_sub_cancel, boxL_take, boxL_drop]
  simp
theorem box_open (l0 l1 l2 l3 : List UInt8) : openL l0 l1 (boxL l0 l1 l2 l3) = l3 := by
  unfold openL
  rw [boxL_len, Nat.add_sub_cancel, boxL_take, cryL_twice]
theorem op_box (l0 l1 l2 l3 : List UInt8) (h : okK l0 l1) (k : okSz 65536 l2 l3) : opE l0 l1 l2 (boxL l0 l1 l2 l3) = 0 ∧ opL l0 l1 l2 (boxL l0 l1 l2 l3) = l3 := by
  have g := opE_ok (l2 := l2) (l3 := boxL l0 l1 l2 l3) h ⟨by rw [boxL_len]; have := k.1; omega, k.2⟩ (by rw [boxL_len]; omega)
  rw [g.1, g.2, box_whole, box_open]
  exact ⟨rfl, rfl⟩
end Go.Proofs.Ytclbfbkbmiijnaa

/- Digits: flat.Hex, missiveref1.Hex. -/
set_option linter.unusedSimpArgs false
set_option linter.unusedVariables false
namespace Go.Proofs.Ytclbfbkbmiijnaa
open Go.RowKit Go.Deep

end Go.Proofs.Ytclbfbkbmiijnaa

/- flat.Equal; missivealike.Cat; missivelaw1.awake. -/
set_option linter.unusedSimpArgs false
set_option linter.unusedVariables false
namespace Go.Proofs.Ytclbfbkbmiijnaa
open Go.RowKit Go.Deep

set_option maxHeartbeats 400000 in
theorem bytesEqual_any (v1 v2 : Value) (l1 l2 : List UInt8) (w : World) (h1 : Bs w v1 l1) (h2 : Bs w v2 l2) :
    Calls Try.prog 45 #[v1, v2] w fun e w' => e = .returned (.bool (l1 == l2)) ∧ w' = w := by
  have c1 := h1.conv
  have c2 := h2.conv
  clear h1 h2
  go_enter Try.func45, Try.ntmps45
  go_wp2
  go_ret
  exact ⟨rfl, rfl⟩

set_option maxHeartbeats 400000 in
theorem equal_any (v1 v2 : Value) (l1 l2 : List UInt8) (w : World) (h1 : Bs w v1 l1) (h2 : Bs w v2 l2) :
    Calls Try.prog 29 #[v1, v2] w fun e w' => e = .returned (.bool (l1 == l2)) ∧ w' = w := by
  go_enter Try.func29, Try.ntmps29
  go_wp2_with fail
  refine (bytesEqual_any v1 v2 l1 l2 _ h1 h2).mono ?_
  rintro e w' ⟨rfl, rfl⟩
  go_wp2
  go_ret
  exact ⟨rfl, rfl⟩

end Go.Proofs.Ytclbfbkbmiijnaa

/- The program's boxes: NewBox, check, marked. -/
namespace Go.Proofs.Ytclbfbkbmiijnaa
open Go.RowKit Go.Deep
set_option linter.unusedSimpArgs false
set_option linter.unusedVariables false

theorem stp_valF {P : Program} {ops : Array Oper} {Q : Exit → Act → World → Prop} {i : Nat} {r : Stp} {a : Act} {w : World} {o : Oper} {fn : Func} (d : Nat) (x : Operand) (f : Nat) (xs : Array Operand) (ts : Array TypeId) (first args : Array Value) {R : Ending → World → Prop} (hc : Calls P f (first ++ args) w R)
    (ho : ops[i]? = some o) (hd : o.dst = some d) (hop : o.op = .call { callee := .value x, args := xs, argTypes := ts }) (hx : a.eval x = .func (.func f) first #[])
    (hw : Region.wanted o (yielded ops a.tmps) = true) (hf : P.funcs[f]? = some fn) (hn : (fn.name == "runtime.NumGoroutine") = false) (hb : fn.body.isNone = false) (hargs : xs.map a.eval = args)
    (h : ∀ e w', R e w' → ∃ v, e = .returned v ∧ Below w.heap.size w w' ∧ LinT P ops Q r (a.put (some d) v) w') : wpOp P ops Q i (fun a' w' => Below w.heap.size w w' ∧ LinT P ops Q r a' w') a w := by
  refine wpOp_step ho fun K' hK => ?_
  rw [if_pos hw]
  unfold Oper.wp
  have hx : (execOp a.eval o).run P w = .ok (.enter f (first ++ args)) w := by simp [execOp, hop, resolve, hx, Deferred.ofValue, invoke, hargs, run_enter hf hn hb]
  rw [hx]
  refine hc.mono fun e w' hT => ?_
  obtain ⟨v, rfl, h1, h2⟩ := h e w' hT
  exact hK _ _ ⟨h1, by rw [hd]; exact h2⟩
theorem stp_valF1 {P : Program} {ops : Array Oper} {Q : Exit → Act → World → Prop} {i : Nat} {r : Stp} {a : Act} {w : World} {o : Oper} {fn : Func} (d : Nat) (x : Operand) (f : Nat) (xs : Array Operand) (ts : Array TypeId) (p v0 : Value) {R : Ending → World → Prop} (hc : Calls P f #[p, v0] w R)
    (ho : ops[i]? = some o) (hd : o.dst = some d) (hop : o.op = .call { callee := .value x, args := xs, argTypes := ts }) (hx : a.eval x = .func (.func f) #[p] #[])
    (hw : Region.wanted o (yielded ops a.tmps) = true) (hf : P.funcs[f]? = some fn) (hn : (fn.name == "runtime.NumGoroutine") = false) (hb : fn.body.isNone = false) (hargs : xs.map a.eval = #[v0])
    (h : ∀ e w', R e w' → ∃ v, e = .returned v ∧ Below w.heap.size w w' ∧ LinT P ops Q r (a.put (some d) v) w') : wpOp P ops Q i (fun a' w' => Below w.heap.size w w' ∧ LinT P ops Q r a' w') a w :=
  stp_valF d x f xs ts #[p] #[v0] hc ho hd hop hx hw hf hn hb hargs h
theorem stp_box_rowF {P : Program} {ops : Array Oper} {Q : Exit → Act → World → Prop} {i : Nat} {r : Stp} {a : Act} {w : World} {o : Oper} (d : Nat) (ty : TypeId) (x : Operand) (t : TypeId) (k : Nat) (f : Nat → Value) (ho : ops[i]? = some o) (hd : o.dst = some d) (hop : o.op = .box ty x) (ht : o.type = t)
    (hw : Region.wanted o (yielded ops a.tmps) = true) (hx : a.eval x = .agg (arrOf k f)) (h : ∀ b w', w.heap.size ≤ b → w'.rowIs b ty k f → Below w.heap.size w w' → LinT P ops Q r (a.put (some d) (.pointer (some ⟨b, 0, none⟩))) w') :
    wpOp P ops Q i (fun a' w' => Below w.heap.size w w' ∧ LinT P ops Q r a' w') a w := by
  have hb : Below w.heap.size w (w.alloc (.cells (arrOf k f) ty)) := (Below.refl _ _).alloc (Nat.le_refl _) _
  have hr : (execOp a.eval (mkOp (.box ty x) t)).run P w = .ok (.value (.pointer (some ⟨w.heap.size, 0, none⟩))) (w.alloc (.cells (arrOf k f) ty)) := by
    unfold execOp mkOp
    simp [hx, Instr.box, newVar, newRow, newObj, Value.cells, Result.andThen]
    rfl
  exact stp_made d _ t _ _ ho hd hop ht hw hr hb (h _ _ (Nat.le_refl _) (rowIs_arr _ _ _ _) hb)
/-- The cells of a box; a key of HMAC lies at v; a box of the key lies at v. -/
def bxF (p q : Value) : Nat → Value := fun i => if i = 0 then p else q
theorem builtBx0 (a : Option Addr) (n c : Nat) (v_k : Value) : Try.prog.built 46 [(0, .slice a n c), (1, (.func (.func 24) #[v_k] #[]))] = some (arrOf 2 (bxF (.slice a n c) (.func (.func 24) #[v_k] #[]))) := by kernel_rfl
theorem builtBx {w : World} {p v_k : Value} {l : List UInt8} (h : Bs w p l) : Try.prog.built 46 [(0, p), (1, (.func (.func 24) #[v_k] #[]))] = some (arrOf 2 (bxF p (.func (.func 24) #[v_k] #[]))) := by
  obtain ⟨a1, c1, rfl, _⟩ := h
  exact builtBx0 a1 _ c1 v_k
def KyAt (w : World) (v : Value) (key : List UInt8) : Prop := ∃ y, v = .pointer (some ⟨y, 0, none⟩) ∧ KeyAt w y key
theorem KyAt.zf {w w' : World} {v : Value} {key : List UInt8} (h : KyAt w v key) (k : Below w.heap.size w w') : KyAt w' v key := by
  obtain ⟨y, rfl, h⟩ := h
  exact ⟨y, rfl, h.below k (Nat.le_refl _)⟩
theorem KyAt.drew {w : World} {v : Value} {key : List UInt8} (h : KyAt w v key) : KyAt w.drew v key := h
theorem newKy_any (v : Value) (key : List UInt8) (w : World) (hv : Bs w v key) (hlen : key.length < 2 ^ 30) : Calls Try.prog 23 #[v] w fun e w' => ∃ v', e = .returned v' ∧ KyAt w' v' key ∧ Below w.heap.size w w' := by
  refine (newKey_any v key w hv hlen).mono ?_
  rintro e w' ⟨y, rfl, h1, h2, h3⟩
  exact ⟨_, rfl, ⟨y, rfl, h2⟩, h3⟩
theorem kyMac_any (vk : Value) (key : List UInt8) (v : Value) (l1 l2 l3 l4 m : List UInt8) (w : World) (hK : KyAt w vk key) (hv : Bss w v [l1, l2, l3, l4]) (hlen : l1.length + l2.length + l3.length + l4.length < 2 ^ 58) (hm : hmac key (l1 ++ (l2 ++ (l3 ++ l4))) = m) :
    Calls Try.prog 24 #[vk, v] w fun e w' => ∃ v', e = .returned v' ∧ Bs w' v' m ∧ Below w.heap.size w w' := by
  obtain ⟨y, rfl, h⟩ := hK
  refine (kmac_any y key v [l1, l2, l3, l4] w h hv (by simp only [List.flatten_cons, List.flatten_nil, List.length_append, List.append_nil]; omega)).mono ?_
  rintro e w' ⟨v', rfl, ho, kk⟩
  have hb := ho.bs
  simp only [List.flatten_cons, List.flatten_nil, List.append_nil] at hb
  rw [hm] at hb
  exact ⟨v', rfl, hb, kk⟩
def BoxAt (w : World) (v : Value) (key : List UInt8) : Prop := ∃ (yb : Nat) (v_a v_k : Value), v = .pointer (some ⟨yb, 0, none⟩) ∧ w.rowIs yb 46 2 (bxF v_a (.func (.func 24) #[v_k] #[])) ∧ Bs w v_a (sAes key) ∧ KyAt w v_k (sMac key) ∧ key.length = 32
theorem BoxAt.zf {w w' : World} {v : Value} {key : List UInt8} (h : BoxAt w v key) (k : Below w.heap.size w w') : BoxAt w' v key := by
  obtain ⟨yb, a, b, rfl, h1, h2, h3, h4⟩ := h
  exact ⟨yb, a, b, rfl, zrb h1 k, zfb h2 k, h3.zf k, h4⟩
theorem BoxAt.drew {w : World} {v : Value} {key : List UInt8} (h : BoxAt w v key) : BoxAt w.drew v key := h
theorem pSealK_to (vk vi : Value) (key : List UInt8) (w : World) (hk : Bs w vk key) (hkl : key.length = 32) (hi : Bs w vi sealT) : Calls Try.prog 22 #[.slice none 0 0, vk, vi, .int .i64 64] w fun e w' => ∃ v', e = .returned v' ∧ Bs w' v' (sealK key) ∧ Below w.heap.size w w' :=
  derive_any _ vk vi [] key sealT 64 w (Bs.nil _) (by decide) hk (by rw [hkl]; decide) hi (by decide) (by decide)
theorem fn_nil (v_k : Value) (W : World) : (binOp .eql 40 (.func (.func 24) #[v_k] #[]) .nilFunc).run Try.prog W = .ok (.bool false) W := by kernel_rfl
set_option maxHeartbeats 4000000 in
set_option maxRecDepth 20000 in
theorem newBox_no (v0 : Value) (l0 : List UInt8) (w : World) (h0 : Bs w v0 l0) (hn : ¬ l0.length = 32) : Calls Try.prog 12 #[v0] w fun e w' => e = .returned (.tuple #[.pointer none, .int .i64 1]) ∧ Below w.heap.size w w' := by
  obtain ⟨ad0, n0, c0, rfl, e0, y0, z0, hB0⟩ := h0.shape
  have q0 : ¬ (n0 : Int) = 32 := by omega
  have Bw0 := Below.refl w.heap.size w
  clear h0 hB0 hn e0
  go_enter Try.func12, Try.ntmps12
  go_wp2
  go_ret2
  exact ⟨rfl, Bw0⟩
set_option maxHeartbeats 4000000 in
set_option maxRecDepth 20000 in
theorem newBox_yes (v0 : Value) (l0 : List UInt8) (w : World) (h0 : Bs w v0 l0) (hl0 : l0.length = 32) : Calls Try.prog 12 #[v0] w fun e w' => ∃ v, e = .returned (.tuple #[v, .int .i64 0]) ∧ BoxAt w' v l0 ∧ Below w.heap.size w w' := by
  obtain ⟨ad0, n0, c0, rfl, e0, y0, z0, hB0⟩ := h0.shape
  have q0 : (n0 : Int) = 32 := by omega
  have H32 := Lib.hid hl0
  have f_0 := hB0
  have Bw0 := Below.refl w.heap.size w
  have HGS : Hid (∀ wq : World, Below w.heap.size w wq → w.heap.size ≤ wq.heap.size) := Lib.hid fun wq h => h.size
  clear h0 hB0 hl0 e0
  go_enter Try.func12, Try.ntmps12
  go_wp2_with (first
    | (have hgo := Bw0; clear hgo
       refine wpList_sealT rfl rfl (.tmp 9) rfl rfl (fun _ => rfl) ?_
       intro v_t v_u w1 f_u kk
       replace f_0 := zfb f_0 kk
       have Bw1 := zbt HGS Bw0 kk
       clear Bw0 kk)
    | (have hgo := Bw1; clear hgo
       go_at_call 22
       refine (pSealK_to _ _ l0 _ f_0 H32.out f_u).mono ?_
       rintro e w2 ⟨v_y, rfl, f_y, kk⟩
       have Bw2 := zbt HGS Bw1 kk
       clear Bw1 kk f_u f_0))
  obtain ⟨v_m, f_m, hrm⟩ := dropB f_y 32 (by rw [sealK_len]; decide)
  replace f_m : Bs w2 v_m (sMac l0) := f_m
  obtain ⟨v_a, f_a, hra⟩ := takeB f_y 32 (by rw [sealK_len]; decide)
  replace f_a : Bs w2 v_a (sAes l0) := f_a
  clear f_y
  replace f_m := f_m.drew
  replace f_a := f_a.drew
  have Bw3 := Bw2.drew
  clear Bw2
  refine wp_region_lint (.rd 0 (.rd 1 (.rd 2 (.rd 3 (.wr 4 (.rd 5 (.rd 6 (.wr 7 (.rd 8 (.rd 9 .done)))))))))) (by kernel_rfl) (by kernel_rfl) (by decide) (by kernel_rfl) (fun d _ _ _ _ h => by cases d <;> exact h) ?_
  refine lint_pure 12 _ _ (v_y) rfl rfl rfl rfl rfl (fun wx hx => by unfold mkOp; go_simp; all_goals (with_reducible rfl)) ?_
  simp only [Act.put, zA, zB, zC]
  refine lint_pure 13 _ _ (v_a) rfl rfl rfl rfl rfl (fun wx hx => by exact hra _ _ _ _ _ rfl rfl) ?_
  simp only [Act.put, zA, zB, zC]
  refine lint_pure 14 _ _ (v_y) rfl rfl rfl rfl rfl (fun wx hx => by unfold mkOp; go_simp; all_goals (with_reducible rfl)) ?_
  simp only [Act.put, zA, zB, zC]
  refine lint_pure 15 _ _ (v_m) rfl rfl rfl rfl rfl (fun wx hx => by exact hrm _ _ _ _ _ rfl rfl) ?_
  simp only [Act.put, zA, zB, zC]
  refine stp_fn 16 23 _ _ _ (newKy_any _ (sMac l0) _ f_m (by rw [sMac_len]; decide)) rfl rfl rfl rfl Try.func23 (by kernel_rfl) (by kernel_rfl) (by go_simp) ?_
  rintro e wq16 ⟨v_16, rfl, f_16, kk⟩
  refine ⟨_, rfl, kk, ?_⟩
  replace f_m := zfb f_m kk
  replace f_a := zfb f_a kk
  have Bw4 := zbt HGS Bw3 kk
  clear Bw3 kk
  simp only [Act.put, zA, zB, zC]
  refine lint_pure 17 _ _ ((.func (.func 24) #[v_16] #[])) rfl rfl rfl rfl rfl (fun wx hx => by unfold mkOp; go_simp; all_goals (with_reducible rfl)) ?_
  simp only [Act.put, zA, zB, zC]
  refine lint_pure 18 _ _ (.agg (arrOf 2 (bxF v_a (.func (.func 24) #[v_16] #[])))) rfl rfl rfl rfl rfl (fun wx hx => by refine exec_build_as _ _ _ ?_; simp only [List.map_toArray, List.map_cons, List.map_nil]; exact builtBx f_a) ?_
  simp only [Act.put, zA, zB, zC]
  refine stp_box_rowF 19 46 (.tmp 18) _ 2 (bxF v_a (.func (.func 24) #[v_16] #[])) rfl rfl rfl rfl rfl rfl ?_
  intro b_19 w20 lk r_19 kk
  clear lk
  replace f_m := zfb f_m kk
  replace f_a := zfb f_a kk
  replace f_16 := KyAt.zf f_16 kk
  have Bw5 := zbt HGS Bw4 kk
  clear Bw4 kk
  simp only [Act.put, zA, zB, zC]
  refine lint_pure 2 _ _ (.pointer (some ⟨b_19, 0, none⟩)) rfl rfl rfl rfl rfl (fun wx hx => by unfold mkOp; go_simp; all_goals (with_reducible rfl)) ?_
  simp only [Act.put, zA, zB, zC]
  refine lint_pure 3 _ _ (.int .i64 0) rfl rfl rfl rfl rfl (fun wx hx => by unfold mkOp; go_simp; all_goals (with_reducible rfl)) ?_
  simp only [Act.put, zA, zB, zC]
  refine lint_end ?_
  go_wp2
  go_ret2
  exact ⟨_, rfl, ⟨_, v_a, v_16, rfl, r_19, f_a, f_16, H32.out⟩, Bw5⟩
def chkE (l1 l2 l3 : List UInt8) (n : Nat) : Int := if l1.length = 12 then if l3.length ≤ n ∧ l2.length ≤ 65536 then 0 else 11 else 1
set_option maxHeartbeats 4000000 in
set_option maxRecDepth 20000 in
theorem check_nil (v1 : Value) (l1 : List UInt8) (v2 : Value) (l2 : List UInt8) (v3 : Value) (l3 : List UInt8) (n : Int) (w : World) : Calls Try.prog 25 #[.pointer none, v1, v2, v3, .int .i64 n] w fun e w' => e = .returned (.int .i64 1) ∧ Below w.heap.size w w' := by
  have Bw0 := Below.refl w.heap.size w
  go_enter Try.func25, Try.ntmps25
  go_wp2
  go_ret
  exact ⟨rfl, Bw0⟩
set_option maxHeartbeats 4000000 in
set_option maxRecDepth 20000 in
theorem check_any (v0 : Value) (key : List UInt8) (v1 : Value) (l1 : List UInt8) (v2 : Value) (l2 : List UInt8) (v3 : Value) (l3 : List UInt8) (n : Nat) (w : World) (h0 : BoxAt w v0 key) (h1 : Bs w v1 l1) (h2 : Bs w v2 l2) (h3 : Bs w v3 l3) : Calls Try.prog 25 #[v0, v1, v2, v3, .int .i64 (n : Int)] w fun e w' => e = .returned (.int .i64 (chkE l1 l2 l3 n)) ∧ Below w.heap.size w w' := by
  obtain ⟨yb, v_a, v_k, rfl, h01, h02, h03, h04⟩ := h0
  have hcell : w.cell? ⟨yb, 1, none⟩ = some (.func (.func 24) #[v_k] #[]) := h01.cell (by omega)
  have hq := fn_nil v_k
  obtain ⟨ad1, n1, c1, rfl, e1, y1, z1, hB1⟩ := h1.shape
  obtain ⟨ad2, n2, c2, rfl, e2, y2, z2, hB2⟩ := h2.shape
  obtain ⟨ad3, n3, c3, rfl, e3, y3, z3, hB3⟩ := h3.shape
  have Bw0 := Below.refl w.heap.size w
  clear h1 h2 h3 hB1 hB2 hB3 h01 h02 h03 h04
  unfold chkE
  by_cases p1 : l1.length = 12
  · rw [if_pos p1]
    have q1 : (n1 : Int) = 12 := by omega
    by_cases p2 : l3.length ≤ n ∧ l2.length ≤ 65536
    · rw [if_pos p2]
      have q2 : ¬ (n : Int) < (n3 : Int) := by omega
      have q3 : ¬ (65536 : Int) < (n2 : Int) := by omega
      clear e1 e2 e3 p1 p2
      go_enter Try.func25, Try.ntmps25
      go_wp2
      go_ret
      exact ⟨rfl, Bw0⟩
    · rw [if_neg p2]
      by_cases p3 : l3.length ≤ n
      · have q2 : ¬ (n : Int) < (n3 : Int) := by omega
        have q3 : (65536 : Int) < (n2 : Int) := by omega
        clear e1 e2 e3 p1 p2 p3
        go_enter Try.func25, Try.ntmps25
        go_wp2
        go_ret
        exact ⟨rfl, Bw0⟩
      · have q2 : (n : Int) < (n3 : Int) := by omega
        clear e1 e2 e3 p1 p2 p3
        go_enter Try.func25, Try.ntmps25
        go_wp2
        go_ret
        exact ⟨rfl, Bw0⟩
  · rw [if_neg p1]
    have q1 : ¬ (n1 : Int) = 12 := by omega
    clear e1 e2 e3 p1
    go_enter Try.func25, Try.ntmps25
    go_wp2
    go_ret
    exact ⟨rfl, Bw0⟩
set_option maxHeartbeats 4000000 in
set_option maxRecDepth 20000 in
theorem marked_any (v0 : Value) (key : List UInt8) (v1 : Value) (l1 : List UInt8) (v2 : Value) (l2 : List UInt8) (v3 : Value) (l3 : List UInt8) (w : World) (h0 : BoxAt w v0 key) (h1 : Bs w v1 l1) (h2 : Bs w v2 l2) (h3 : Bs w v3 l3) (hl1 : l1.length = 12) (hl2 : l2.length ≤ 65536) (hl3 : l3.length ≤ 65568) : Calls Try.prog 28 #[v0, v1, v2, v3] w fun e w' => ∃ v, e = .returned v ∧ Bs w' v (macL key l1 l2 l3) ∧ Below w.heap.size w w' := by
  obtain ⟨yb, v_a, v_k, rfl, h01, h02, h03, h04⟩ := h0
  have r_b := h01
  have k_k := h03
  obtain ⟨ad1, n1, c1, rfl, e1, y1, z1, hB1⟩ := h1.shape
  obtain ⟨ad2, n2, c2, rfl, e2, y2, z2, hB2⟩ := h2.shape
  obtain ⟨ad3, n3, c3, rfl, e3, y3, z3, hB3⟩ := h3.shape
  have f_1 := hB1
  have f_2 := hB2
  have f_3 := hB3
  have hw1 : IntKind.u64.wrap (n2 : Int) = (n2 : Int) := by rw [IntKind.wrap_u64]; omega
  have HN3 : Hid (l1.length = 12 ∧ n2 ≤ 65536 ∧ l2.length ≤ 65536 ∧ l3.length ≤ 65568) := Lib.hid (by omega)
  have HM : Hid (hmac (sMac key) (l1 ++ (bigB n2 8 ++ (l2 ++ l3))) = macL key l1 l2 l3) := Lib.hid (by unfold macL; rw [e2])
  have Bw0 := Below.refl w.heap.size w
  have HGS : Hid (∀ wq : World, Below w.heap.size w wq → w.heap.size ≤ wq.heap.size) := Lib.hid fun wq h => h.size
  clear h1 h2 h3 hB1 hB2 hB3 h01 h02 h03 h04 e1 e2 e3 hl1 hl2 hl3
  go_enter Try.func28, Try.ntmps28
  go_wp2
  replace f_1 := f_1.drew
  replace f_2 := f_2.drew
  replace f_3 := f_3.drew
  replace r_b := r_b.drew
  replace k_k := k_k.drew
  have Bw1 := Bw0.drew
  clear Bw0
  refine wp_region_lint (.rd 0 (.rd 1 (.rd 2 (.rd 3 (.rd 4 (.rd 5 (.rd 6 (.rd 7 (.rd 9 (.rd 10 (.wr 8 (.wr 11 (.wr 12 (.rd 13 .done)))))))))))))) (by kernel_rfl) (by kernel_rfl) (by decide) (by kernel_rfl) (fun d _ _ _ _ h => by cases d <;> exact h) ?_
  refine lint_pure 9 _ _ (.pointer (some ⟨yb, 0, none⟩)) rfl rfl rfl rfl rfl (fun wx hx => by unfold mkOp; go_simp; all_goals (with_reducible rfl)) ?_
  simp only [Act.put, zA, zB, zC]
  refine lint_pure 10 _ _ (.pointer (some ⟨yb, 0, none⟩)) rfl rfl rfl rfl rfl (fun wx hx => by unfold mkOp; go_simp; all_goals (with_reducible rfl)) ?_
  simp only [Act.put, zA, zB, zC]
  refine lint_pure 11 _ _ (.pointer (some ⟨yb, 1, none⟩)) rfl rfl rfl rfl rfl (fun wx hx => by unfold mkOp; go_simp; all_goals (with_reducible rfl)) ?_
  simp only [Act.put, zA, zB, zC]
  refine lint_pure 12 _ _ ((.func (.func 24) #[v_k] #[])) rfl rfl rfl rfl rfl (fun wx hx => by exact exec_load_cell _ _ _ _ rfl (by kernel_rfl) ((zrb r_b hx).cell (by omega))) ?_
  simp only [Act.put, zA, zB, zC]
  refine lint_pure 13 _ _ (.slice ad1 n1 c1) rfl rfl rfl rfl rfl (fun wx hx => by unfold mkOp; go_simp; all_goals (with_reducible rfl)) ?_
  simp only [Act.put, zA, zB, zC]
  refine lint_pure 14 _ _ (.slice ad2 n2 c2) rfl rfl rfl rfl rfl (fun wx hx => by unfold mkOp; go_simp; all_goals (with_reducible rfl)) ?_
  simp only [Act.put, zA, zB, zC]
  refine lint_pure 15 _ _ (.int .i64 (n2 : Int)) rfl rfl rfl rfl rfl (fun wx hx => by unfold mkOp; go_simp; all_goals (with_reducible rfl)) ?_
  simp only [Act.put, zA, zB, zC]
  refine lint_pure 16 _ _ (.int .u64 (n2 : Int)) rfl rfl rfl rfl rfl (fun wx hx => by unfold mkOp; go_simp; all_goals (with_reducible rfl)) ?_
  simp only [Act.put, zA, zB, zC]
  refine lint_pure 18 _ _ (.slice ad2 n2 c2) rfl rfl rfl rfl rfl (fun wx hx => by unfold mkOp; go_simp; all_goals (with_reducible rfl)) ?_
  simp only [Act.put, zA, zB, zC]
  refine lint_pure 19 _ _ (.slice ad3 n3 c3) rfl rfl rfl rfl rfl (fun wx hx => by unfold mkOp; go_simp; all_goals (with_reducible rfl)) ?_
  simp only [Act.put, zA, zB, zC]
  refine stp_fn 17 44 _ _ _ (put64_any n2 _ (by have := HN3.out; omega)) rfl rfl rfl rfl Try.func44 (by kernel_rfl) (by kernel_rfl) (by go_simp) ?_
  rintro e wq17 ⟨v_17, rfl, f_17, kk⟩
  refine ⟨_, rfl, kk, ?_⟩
  replace f_1 := zfb f_1 kk
  replace f_2 := zfb f_2 kk
  replace f_3 := zfb f_3 kk
  replace r_b := zrb r_b kk
  replace k_k := KyAt.zf k_k kk
  have Bw2 := zbt HGS Bw1 kk
  clear Bw1 kk
  simp only [Act.put, zA, zB, zC]
  refine stp_rowsS4 20 (.tmp 13) (.tmp 17) (.tmp 18) (.tmp 19) rfl rfl rfl rfl f_1 f_17 f_2 f_3 rfl rfl rfl rfl  ?_
  intro wq20 v_20 F_r kk
  replace f_1 := zfb f_1 kk
  replace f_2 := zfb f_2 kk
  replace f_3 := zfb f_3 kk
  replace r_b := zrb r_b kk
  replace k_k := KyAt.zf k_k kk
  replace f_17 := zfb f_17 kk
  have Bw3 := zbt HGS Bw2 kk
  clear Bw2 kk
  simp only [Act.put, zA, zB, zC]
  refine stp_valF1 21 (.tmp 12) 24 _ _ v_k v_20 (kyMac_any v_k (sMac key) v_20 l1 (bigB n2 8) l2 l3 _ _ k_k F_r (by rw [big8_len]; have := HN3.out; omega) HM.out) rfl rfl rfl rfl rfl Try.func24 (by kernel_rfl) (by kernel_rfl) (by go_simp) ?_
  rintro e wq21 ⟨v_21, rfl, f_21, kk⟩
  refine ⟨_, rfl, kk, ?_⟩
  replace f_1 := zfb f_1 kk
  replace f_2 := zfb f_2 kk
  replace f_3 := zfb f_3 kk
  replace r_b := zrb r_b kk
  replace k_k := KyAt.zf k_k kk
  replace f_17 := zfb f_17 kk
  have Bw4 := zbt HGS Bw3 kk
  clear Bw3 kk
  simp only [Act.put, zA, zB, zC]
  refine lint_pure 8 _ _ (v_21) rfl rfl rfl rfl rfl (fun wx hx => by unfold mkOp; go_simp; all_goals (with_reducible rfl)) ?_
  simp only [Act.put, zA, zB, zC]
  refine lint_end ?_
  go_wp2
  go_ret
  exact ⟨_, rfl, f_21, Bw4⟩
end Go.Proofs.Ytclbfbkbmiijnaa

/- The program's boxes: Seal, Open. -/
namespace Go.Proofs.Ytclbfbkbmiijnaa
open Go.RowKit Go.Deep
set_option linter.unusedSimpArgs false
set_option linter.unusedVariables false

theorem wpList_load_atF {P : Program} {ops : Array Oper} {rest : List Oper} {o : Oper} {a : Act} {w : World} {Q : Exit → Act → World → Prop} (hw : Region.wanted o (yielded ops a.tmps) = true) (ty : TypeId) (x : Operand) (ho : o.op = .load ty x) {b m i : Nat} {t : TypeId} {f : Nat → Value} (v : Value) (hr : w.rowIs b t m f) (hx : a.eval x = .pointer (some ⟨b, i, none⟩)) (hi : i < m) (hv : f i = v)
    (hu : (P.underlying ty).map (fun d => match d with | .struct _ | .array _ _ => true | _ => false) = some false) (h : wpList P ops Q rest (a.put o.dst v) w) : wpList P ops Q (o :: rest) a w := by
  have hc := hr.cell hi
  rw [hv] at hc
  exact wpList_value_given hw v (by rw [exec_mkOp, ho]; exact exec_load_cell a.eval ty x o.type hx hu hc) h
theorem check_to (v0 : Value) (key : List UInt8) (v1 : Value) (l1 : List UInt8) (v2 : Value) (l2 : List UInt8) (v3 : Value) (l3 : List UInt8) (n : Nat) (c : Int) (w : World) (h0 : BoxAt w v0 key) (h1 : Bs w v1 l1) (h2 : Bs w v2 l2) (h3 : Bs w v3 l3) (hc : chkE l1 l2 l3 n = c) : Calls Try.prog 25 #[v0, v1, v2, v3, .int .i64 (n : Int)] w fun e w' => e = .returned (.int .i64 c) ∧ Below w.heap.size w w' := by
  subst hc
  exact check_any v0 key v1 l1 v2 l2 v3 l3 n w h0 h1 h2 h3
theorem equal_to (v1 v2 : Value) (l1 l2 : List UInt8) (b : Bool) (w : World) (h1 : Bs w v1 l1) (h2 : Bs w v2 l2) (hb : (l1 == l2) = b) : Calls Try.prog 29 #[v1, v2] w fun e w' => e = .returned (.bool b) ∧ w' = w := by
  subst hb
  exact equal_any v1 v2 l1 l2 w h1 h2
theorem BoxAt.len {w : World} {v : Value} {key : List UInt8} (h : BoxAt w v key) : key.length = 32 := by
  obtain ⟨_, _, _, _, _, _, _, h⟩ := h
  exact h
theorem crypt_to (v0 v1 v2 : Value) (key l1 l2 m : List UInt8) (w : World) (h0 : Bs w v0 (sAes key)) (h1 : Bs w v1 l1) (hl1 : l1.length = 12) (h2 : Bs w v2 l2) (hl2 : l2.length ≤ 65536) (hm : cryL key l1 l2 = m) : Calls Try.prog 26 #[v0, v1, v2] w fun e w' => ∃ v, e = .returned (.tuple #[v, .int .i64 0]) ∧ Bs w' v m ∧ Below w.heap.size w w' := by
  subst hm
  exact pCrypt_any v0 (sAes key) v1 l1 v2 l2 w h0 (sAes_len key) h1 hl1 h2 (by omega)
set_option maxHeartbeats 4000000 in
set_option maxRecDepth 20000 in
theorem boxSeal_nil (v1 : Value) (l1 : List UInt8) (v2 : Value) (l2 : List UInt8) (v3 : Value) (l3 : List UInt8) (w : World) : Calls Try.prog 13 #[.pointer none, v1, v2, v3] w fun e w' => e = .returned (.tuple #[.slice none 0 0, .int .i64 1]) ∧ Below w.heap.size w w' := by
  have Bw0 := Below.refl w.heap.size w
  have HGS : Hid (∀ wq : World, Below w.heap.size w wq → w.heap.size ≤ wq.heap.size) := Lib.hid fun wq h => h.size
  go_enter Try.func13, Try.ntmps13
  go_wp2_with (first
    | (have hgo := Bw0; clear hgo
       go_at_call 25
       refine (check_nil _ l1 _ l2 _ l3 _ _).mono ?_
       rintro e w1 ⟨rfl, kk⟩
       have Bw1 := zbt HGS Bw0 kk
       clear Bw0 kk))
  go_ret2
  exact ⟨rfl, Bw1⟩
set_option maxHeartbeats 4000000 in
set_option maxRecDepth 20000 in
theorem boxSeal_arg (v0 : Value) (key : List UInt8) (v1 : Value) (l1 : List UInt8) (v2 : Value) (l2 : List UInt8) (v3 : Value) (l3 : List UInt8) (w : World) (h0 : BoxAt w v0 key) (h1 : Bs w v1 l1) (h2 : Bs w v2 l2) (h3 : Bs w v3 l3) (hn : ¬ l1.length = 12) : Calls Try.prog 13 #[v0, v1, v2, v3] w fun e w' => e = .returned (.tuple #[.slice none 0 0, .int .i64 1]) ∧ Below w.heap.size w w' := by
  have HCK : Hid (chkE l1 l2 l3 65536 = 1) := Lib.hid (by unfold chkE; rw [if_neg hn])
  have x_b := h0
  have f_1 := h1
  have f_2 := h2
  have f_3 := h3
  have Bw0 := Below.refl w.heap.size w
  have HGS : Hid (∀ wq : World, Below w.heap.size w wq → w.heap.size ≤ wq.heap.size) := Lib.hid fun wq h => h.size
  clear h0 h1 h2 h3
  go_enter Try.func13, Try.ntmps13
  go_wp2_with (first
    | (have hgo := Bw0; clear hgo
       go_at_call 25
       refine (check_to _ key _ l1 _ l2 _ l3 65536 _ _ x_b f_1 f_2 f_3 HCK.out).mono ?_
       rintro e w1 ⟨rfl, kk⟩
       replace f_1 := zfb f_1 kk
       replace f_2 := zfb f_2 kk
       replace f_3 := zfb f_3 kk
       replace x_b := BoxAt.zf x_b kk
       have Bw1 := zbt HGS Bw0 kk
       clear Bw0 kk))
  go_ret2
  exact ⟨rfl, Bw1⟩
set_option maxHeartbeats 4000000 in
set_option maxRecDepth 20000 in
theorem boxSeal_big (v0 : Value) (key : List UInt8) (v1 : Value) (l1 : List UInt8) (v2 : Value) (l2 : List UInt8) (v3 : Value) (l3 : List UInt8) (w : World) (h0 : BoxAt w v0 key) (h1 : Bs w v1 l1) (h2 : Bs w v2 l2) (h3 : Bs w v3 l3) (h12 : l1.length = 12) (hn : ¬ (l3.length ≤ 65536 ∧ l2.length ≤ 65536)) : Calls Try.prog 13 #[v0, v1, v2, v3] w fun e w' => e = .returned (.tuple #[.slice none 0 0, .int .i64 11]) ∧ Below w.heap.size w w' := by
  have HCK : Hid (chkE l1 l2 l3 65536 = 11) := Lib.hid (by unfold chkE; rw [if_pos h12, if_neg hn])
  have x_b := h0
  have f_1 := h1
  have f_2 := h2
  have f_3 := h3
  have Bw0 := Below.refl w.heap.size w
  have HGS : Hid (∀ wq : World, Below w.heap.size w wq → w.heap.size ≤ wq.heap.size) := Lib.hid fun wq h => h.size
  clear h0 h1 h2 h3
  go_enter Try.func13, Try.ntmps13
  go_wp2_with (first
    | (have hgo := Bw0; clear hgo
       go_at_call 25
       refine (check_to _ key _ l1 _ l2 _ l3 65536 _ _ x_b f_1 f_2 f_3 HCK.out).mono ?_
       rintro e w1 ⟨rfl, kk⟩
       replace f_1 := zfb f_1 kk
       replace f_2 := zfb f_2 kk
       replace f_3 := zfb f_3 kk
       replace x_b := BoxAt.zf x_b kk
       have Bw1 := zbt HGS Bw0 kk
       clear Bw0 kk))
  go_ret2
  exact ⟨rfl, Bw1⟩
set_option maxHeartbeats 4000000 in
set_option maxRecDepth 20000 in
theorem boxOpen_nil (v1 : Value) (l1 : List UInt8) (v2 : Value) (l2 : List UInt8) (v3 : Value) (l3 : List UInt8) (w : World) : Calls Try.prog 14 #[.pointer none, v1, v2, v3] w fun e w' => e = .returned (.tuple #[.slice none 0 0, .int .i64 1]) ∧ Below w.heap.size w w' := by
  have Bw0 := Below.refl w.heap.size w
  have HGS : Hid (∀ wq : World, Below w.heap.size w wq → w.heap.size ≤ wq.heap.size) := Lib.hid fun wq h => h.size
  go_enter Try.func14, Try.ntmps14
  go_wp2_with (first
    | (have hgo := Bw0; clear hgo
       go_at_call 25
       refine (check_nil _ l1 _ l2 _ l3 _ _).mono ?_
       rintro e w1 ⟨rfl, kk⟩
       have Bw1 := zbt HGS Bw0 kk
       clear Bw0 kk))
  go_ret2
  exact ⟨rfl, Bw1⟩
set_option maxHeartbeats 4000000 in
set_option maxRecDepth 20000 in
theorem boxOpen_arg (v0 : Value) (key : List UInt8) (v1 : Value) (l1 : List UInt8) (v2 : Value) (l2 : List UInt8) (v3 : Value) (l3 : List UInt8) (w : World) (h0 : BoxAt w v0 key) (h1 : Bs w v1 l1) (h2 : Bs w v2 l2) (h3 : Bs w v3 l3) (hn : ¬ l1.length = 12) : Calls Try.prog 14 #[v0, v1, v2, v3] w fun e w' => e = .returned (.tuple #[.slice none 0 0, .int .i64 1]) ∧ Below w.heap.size w w' := by
  have HCK : Hid (chkE l1 l2 l3 65568 = 1) := Lib.hid (by unfold chkE; rw [if_neg hn])
  have x_b := h0
  have f_1 := h1
  have f_2 := h2
  have f_3 := h3
  have Bw0 := Below.refl w.heap.size w
  have HGS : Hid (∀ wq : World, Below w.heap.size w wq → w.heap.size ≤ wq.heap.size) := Lib.hid fun wq h => h.size
  clear h0 h1 h2 h3
  go_enter Try.func14, Try.ntmps14
  go_wp2_with (first
    | (have hgo := Bw0; clear hgo
       go_at_call 25
       refine (check_to _ key _ l1 _ l2 _ l3 65568 _ _ x_b f_1 f_2 f_3 HCK.out).mono ?_
       rintro e w1 ⟨rfl, kk⟩
       replace f_1 := zfb f_1 kk
       replace f_2 := zfb f_2 kk
       replace f_3 := zfb f_3 kk
       replace x_b := BoxAt.zf x_b kk
       have Bw1 := zbt HGS Bw0 kk
       clear Bw0 kk))
  go_ret2
  exact ⟨rfl, Bw1⟩
set_option maxHeartbeats 4000000 in
set_option maxRecDepth 20000 in
theorem boxOpen_big (v0 : Value) (key : List UInt8) (v1 : Value) (l1 : List UInt8) (v2 : Value) (l2 : List UInt8) (v3 : Value) (l3 : List UInt8) (w : World) (h0 : BoxAt w v0 key) (h1 : Bs w v1 l1) (h2 : Bs w v2 l2) (h3 : Bs w v3 l3) (h12 : l1.length = 12) (hn : ¬ (l3.length ≤ 65568 ∧ l2.length ≤ 65536)) : Calls Try.prog 14 #[v0, v1, v2, v3] w fun e w' => e = .returned (.tuple #[.slice none 0 0, .int .i64 11]) ∧ Below w.heap.size w w' := by
  have HCK : Hid (chkE l1 l2 l3 65568 = 11) := Lib.hid (by unfold chkE; rw [if_pos h12, if_neg hn])
  have x_b := h0
  have f_1 := h1
  have f_2 := h2
  have f_3 := h3
  have Bw0 := Below.refl w.heap.size w
  have HGS : Hid (∀ wq : World, Below w.heap.size w wq → w.heap.size ≤ wq.heap.size) := Lib.hid fun wq h => h.size
  clear h0 h1 h2 h3
  go_enter Try.func14, Try.ntmps14
  go_wp2_with (first
    | (have hgo := Bw0; clear hgo
       go_at_call 25
       refine (check_to _ key _ l1 _ l2 _ l3 65568 _ _ x_b f_1 f_2 f_3 HCK.out).mono ?_
       rintro e w1 ⟨rfl, kk⟩
       replace f_1 := zfb f_1 kk
       replace f_2 := zfb f_2 kk
       replace f_3 := zfb f_3 kk
       replace x_b := BoxAt.zf x_b kk
       have Bw1 := zbt HGS Bw0 kk
       clear Bw0 kk))
  go_ret2
  exact ⟨rfl, Bw1⟩
set_option maxHeartbeats 4000000 in
set_option maxRecDepth 20000 in
theorem boxSeal_any (v0 : Value) (key : List UInt8) (v1 : Value) (l1 : List UInt8) (v2 : Value) (l2 : List UInt8) (v3 : Value) (l3 : List UInt8) (w : World) (h0 : BoxAt w v0 key) (h1 : Bs w v1 l1) (h2 : Bs w v2 l2) (h3 : Bs w v3 l3) (h12 : l1.length = 12) (hs : l3.length ≤ 65536 ∧ l2.length ≤ 65536) : Calls Try.prog 13 #[v0, v1, v2, v3] w fun e w' => ∃ v, e = .returned (.tuple #[v, .int .i64 0]) ∧ Bs w' v (boxL key l1 l2 l3) ∧ Below w.heap.size w w' := by
  have HCK : Hid (chkE l1 l2 l3 65536 = 0) := Lib.hid (by unfold chkE; rw [if_pos h12, if_pos hs])
  have x_b := h0
  obtain ⟨ad1, n1, c1, rfl, e1, y1, z1, hB1⟩ := h1.shape
  obtain ⟨ad2, n2, c2, rfl, e2, y2, z2, hB2⟩ := h2.shape
  obtain ⟨ad3, n3, c3, rfl, e3, y3, z3, hB3⟩ := h3.shape
  have f_1 := hB1
  have f_2 := hB2
  have f_3 := hB3
  have H12 := Lib.hid h12
  have HS := Lib.hid hs
  have HN3 : Hid (n3 ≤ 65536) := Lib.hid (by omega)
  have HE3 := Lib.hid e3
  obtain ⟨CL, hCL⟩ : ∃ C, C = cryL key l1 l3 := ⟨_, rfl⟩
  have HCC := Lib.hid hCL.symm
  have HCL : Hid (CL.length = n3) := Lib.hid (by rw [hCL, cryL_len, e3])
  obtain ⟨ML, hML⟩ : ∃ C, C = macL key l1 l2 CL := ⟨_, rfl⟩
  have HMC := Lib.hid hML.symm
  have HML : Hid (ML.length = 32) := Lib.hid (by rw [hML, macL_len])
  have HBX : Hid (CL ++ ML = boxL key l1 l2 l3) := Lib.hid (by rw [hML, hCL]; rfl)
  have Bw0 := Below.refl w.heap.size w
  have HGS : Hid (∀ wq : World, Below w.heap.size w wq → w.heap.size ≤ wq.heap.size) := Lib.hid fun wq h => h.size
  have HLD := Lib.hid h12
  have x_c := h0
  clear h0 h1 h2 h3 hB1 hB2 hB3 e1 e2 e3 h12 hs hCL hML
  obtain ⟨yb, v_a, v_k, rfl, r_b, f_a, k_k, hkl⟩ := x_c
  clear hkl k_k
  go_enter Try.func13, Try.ntmps13
  go_wp2_with (first
    | (have hgo := Bw0; clear hgo
       go_at_call 25
       refine (check_to _ key _ l1 _ l2 _ l3 65536 _ _ x_b f_1 f_2 f_3 HCK.out).mono ?_
       rintro e w1 ⟨rfl, kk⟩
       replace f_1 := zfb f_1 kk
       replace r_b := zrb r_b kk
       replace f_a := zfb f_a kk
       replace f_2 := zfb f_2 kk
       replace f_3 := zfb f_3 kk
       replace x_b := BoxAt.zf x_b kk
       have Bw1 := zbt HGS Bw0 kk
       clear Bw0 kk)
    | (have hgo := HLD; clear hgo
       refine wpList_load_atF rfl 22 (.tmp 24) rfl v_a r_b rfl (by omega) rfl (by kernel_rfl) ?_
       clear HLD r_b)
    | (have hgo := Bw1; clear hgo
       go_at_call 26
       refine (crypt_to _ _ _ key l1 l3 CL _ f_a f_1 H12.out f_3 HS.out.1 HCC.out).mono ?_
       rintro e w2 ⟨v_c, rfl, f_c, kk⟩
       replace f_1 := zfb f_1 kk
       replace f_2 := zfb f_2 kk
       replace x_b := BoxAt.zf x_b kk
       have Bw2 := zbt HGS Bw1 kk
       clear Bw1 kk f_3 f_a)
    | (have hgo := Bw2; clear hgo
       go_at_call 28
       refine (marked_any _ key _ l1 _ l2 _ CL _ x_b f_1 f_2 f_c H12.out HS.out.2 (by rw [HCL.out]; have := HN3.out; omega)).mono ?_
       rintro e w3 ⟨v_m, rfl, f_m, kk⟩
       rw [HMC.out] at f_m
       replace f_c := zfb f_c kk
       have Bw3 := zbt HGS Bw2 kk
       clear Bw2 kk f_1 f_2 x_b)
    | (have hgo := Bw3; clear hgo
       refine wpList_rows2 rfl (.tmp 34) (.tmp 39) rfl f_c f_m rfl rfl ?_
       intro v_r w4 F_r kk
       have Bw4 := zbt HGS Bw3 kk
       clear Bw3 kk f_c f_m)
    | (have hgo := Bw4; clear hgo
       go_at_call 27
       refine (putcat_to _ CL ML _ F_r (by rw [HCL.out, HML.out]; have := HN3.out; omega)).mono ?_
       rintro e w5 ⟨v_x, rfl, f_x, kk⟩
       rw [HBX.out] at f_x
       have Bw5 := zbt HGS Bw4 kk
       clear Bw4 kk F_r))
  go_ret2
  exact ⟨_, rfl, f_x, Bw5⟩
set_option maxHeartbeats 4000000 in
set_option maxRecDepth 20000 in
theorem boxOpen_short (v0 : Value) (key : List UInt8) (v1 : Value) (l1 : List UInt8) (v2 : Value) (l2 : List UInt8) (v3 : Value) (l3 : List UInt8) (w : World) (h0 : BoxAt w v0 key) (h1 : Bs w v1 l1) (h2 : Bs w v2 l2) (h3 : Bs w v3 l3) (h12 : l1.length = 12) (hs : l3.length ≤ 65568 ∧ l2.length ≤ 65536) (hn : l3.length < 32) : Calls Try.prog 14 #[v0, v1, v2, v3] w fun e w' => e = .returned (.tuple #[.slice none 0 0, .int .i64 2]) ∧ Below w.heap.size w w' := by
  have HCK : Hid (chkE l1 l2 l3 65568 = 0) := Lib.hid (by unfold chkE; rw [if_pos h12, if_pos hs])
  have x_b := h0
  obtain ⟨ad1, n1, c1, rfl, e1, y1, z1, hB1⟩ := h1.shape
  obtain ⟨ad2, n2, c2, rfl, e2, y2, z2, hB2⟩ := h2.shape
  obtain ⟨ad3, n3, c3, rfl, e3, y3, z3, hB3⟩ := h3.shape
  have f_1 := hB1
  have f_2 := hB2
  have f_3 := hB3
  have H12 := Lib.hid h12
  have HS := Lib.hid hs
  have HN3 : Hid (n3 ≤ 65568) := Lib.hid (by omega)
  have HE3 := Lib.hid e3
  obtain ⟨K, hK⟩ : ∃ K : Int, K = (n3 : Int) - 32 := ⟨_, rfl⟩
  have hw2 : IntKind.i64.wrap ((n3 : Int) - 32) = K := by rw [IntWalk.i64_in _ (by omega)]; omega
  have q4 : K < 0 := by omega
  have Bw0 := Below.refl w.heap.size w
  have HGS : Hid (∀ wq : World, Below w.heap.size w wq → w.heap.size ≤ wq.heap.size) := Lib.hid fun wq h => h.size
  obtain ⟨yb, v_a, v_k, hv0, _, _, _, _⟩ := x_b
  subst hv0
  have x_b := h0
  clear h0 h1 h2 h3 hB1 hB2 hB3 e1 e2 e3 h12 hs hn hK
  go_enter Try.func14, Try.ntmps14
  go_wp2_with (first
    | (have hgo := Bw0; clear hgo
       go_at_call 25
       refine (check_to _ key _ l1 _ l2 _ l3 65568 _ _ x_b f_1 f_2 f_3 HCK.out).mono ?_
       rintro e w1 ⟨rfl, kk⟩
       replace f_1 := zfb f_1 kk
       replace f_2 := zfb f_2 kk
       replace f_3 := zfb f_3 kk
       replace x_b := BoxAt.zf x_b kk
       have Bw1 := zbt HGS Bw0 kk
       clear Bw0 kk))
  replace f_1 := f_1.drew
  have Bw2 := Bw1.drew
  clear Bw1
  refine wp_region_lint (.rd 0 (.rd 1 (.rd 2 (.rd 3 (.rd 4 (.rd 5 (.rd 6 (.rd 7 (.rd 8 (.rd 9 (.rd 10 (.rd 11 (.rd 12 (.rd 13 (.rd 14 (.rd 15 .done)))))))))))))))) (by kernel_rfl) (by kernel_rfl) (by decide) (by kernel_rfl) (fun d _ _ _ _ h => by cases d <;> exact h) ?_
  refine lint_pure 23 _ _ (.int .i64 K) rfl rfl rfl rfl rfl (fun wx hx => by unfold mkOp; go_simp; all_goals (with_reducible rfl)) ?_
  simp only [Act.put, zA, zB, zC]
  refine lint_pure 24 _ _ (.bool true) rfl rfl rfl rfl rfl (fun wx hx => by unfold mkOp; go_simp; all_goals (with_reducible rfl)) ?_
  simp only [Act.put, zA, zB, zC]
  refine lint_pure 25 _ _ (.bool true) rfl rfl rfl rfl rfl (fun wx hx => by unfold mkOp; go_simp; all_goals (with_reducible rfl)) ?_
  simp only [Act.put, zA, zB, zC]
  refine lint_none 26 rfl rfl rfl ?_
  simp only [Act.put, zA, zB, zC]
  refine lint_none 27 rfl rfl rfl ?_
  simp only [Act.put, zA, zB, zC]
  refine lint_none 28 rfl rfl rfl ?_
  simp only [Act.put, zA, zB, zC]
  refine lint_none 29 rfl rfl rfl ?_
  simp only [Act.put, zA, zB, zC]
  refine lint_none 30 rfl rfl rfl ?_
  simp only [Act.put, zA, zB, zC]
  refine lint_none 31 rfl rfl rfl ?_
  simp only [Act.put, zA, zB, zC]
  refine lint_none 32 rfl rfl rfl ?_
  simp only [Act.put, zA, zB, zC]
  refine lint_none 33 rfl rfl rfl ?_
  simp only [Act.put, zA, zB, zC]
  refine lint_none 34 rfl rfl rfl ?_
  simp only [Act.put, zA, zB, zC]
  refine lint_none 35 rfl rfl rfl ?_
  simp only [Act.put, zA, zB, zC]
  refine lint_none 36 rfl rfl rfl ?_
  simp only [Act.put, zA, zB, zC]
  refine lint_none 37 rfl rfl rfl ?_
  simp only [Act.put, zA, zB, zC]
  refine lint_pure 38 _ _ (.bool true) rfl rfl rfl rfl rfl (fun wx hx => by unfold mkOp; go_simp; all_goals (with_reducible rfl)) ?_
  simp only [Act.put, zA, zB, zC]
  refine lint_end ?_
  go_wp2
  go_ret2
  exact ⟨rfl, Bw2⟩
set_option maxHeartbeats 4000000 in
set_option maxRecDepth 20000 in
theorem boxOpen_any (v0 : Value) (key : List UInt8) (v1 : Value) (l1 : List UInt8) (v2 : Value) (l2 : List UInt8) (v3 : Value) (l3 : List UInt8) (w : World) (h0 : BoxAt w v0 key) (h1 : Bs w v1 l1) (h2 : Bs w v2 l2) (h3 : Bs w v3 l3) (h12 : l1.length = 12) (hs : l3.length ≤ 65568 ∧ l2.length ≤ 65536) (hn : ¬ l3.length < 32) : Calls Try.prog 14 #[v0, v1, v2, v3] w fun e w' => ∃ v, e = .returned (.tuple #[v, .int .i64 (if tornB key l1 l2 l3 = true then 2 else 0)]) ∧ Bs w' v (if tornB key l1 l2 l3 = true then [] else openL key l1 l3) ∧ Below w.heap.size w w' := by
  have HCK : Hid (chkE l1 l2 l3 65568 = 0) := Lib.hid (by unfold chkE; rw [if_pos h12, if_pos hs])
  have x_b := h0
  obtain ⟨ad1, n1, c1, rfl, e1, y1, z1, hB1⟩ := h1.shape
  obtain ⟨ad2, n2, c2, rfl, e2, y2, z2, hB2⟩ := h2.shape
  obtain ⟨ad3, n3, c3, rfl, e3, y3, z3, hB3⟩ := h3.shape
  have f_1 := hB1
  have f_2 := hB2
  have f_3 := hB3
  have H12 := Lib.hid h12
  have HS := Lib.hid hs
  have HN3 : Hid (n3 ≤ 65568) := Lib.hid (by omega)
  have HE3 := Lib.hid e3
  obtain ⟨k, hk⟩ := nat_var (n3 - 32)
  have hw2 : IntKind.i64.wrap ((n3 : Int) - 32) = (k : Int) := by rw [IntWalk.i64_in _ (by omega)]; omega
  have q4 : ¬ (k : Int) < 0 := by omega
  have HK : Hid (k ≤ l3.length) := Lib.hid (by omega)
  obtain ⟨b, hb⟩ : ∃ b, b = tornB key l1 l2 l3 := ⟨_, rfl⟩
  obtain ⟨c, hc⟩ : ∃ c, c = l3.take k := ⟨_, rfl⟩
  have hcl : c.length = k := by rw [hc, List.length_take]; omega
  have HCC := Lib.hid hc
  have HCL : Hid (c.length ≤ 65536) := Lib.hid (by omega)
  obtain ⟨OL, hOL⟩ : ∃ C, C = openL key l1 l3 := ⟨_, rfl⟩
  have HO : Hid (cryL key l1 c = OL) := Lib.hid (by rw [hOL]; unfold openL; rw [e3, ← hk, ← hc])
  have HBB : Hid ((l3.drop k == macL key l1 l2 c) = !b) := Lib.hid (by
    rw [hb]
    unfold tornB
    rw [e3, ← hk, ← hc]
    generalize macL key l1 l2 c = p
    generalize l3.drop k = q
    by_cases e : p = q
    · subst e
      simp
    · have e2 : ¬ q = p := fun x => e x.symm
      simp [e, e2])
  rw [← hb, ← hOL]
  have Bw0 := Below.refl w.heap.size w
  have HGS : Hid (∀ wq : World, Below w.heap.size w wq → w.heap.size ≤ wq.heap.size) := Lib.hid fun wq h => h.size
  obtain ⟨yb, v_a, v_k, hv0, r_b, f_a, _, _⟩ := x_b
  subst hv0
  have x_b := h0
  clear h0 h1 h2 h3 hB1 hB2 hB3 e1 e2 e3 h12 hs hn hk hb hc hcl hOL
  go_enter Try.func14, Try.ntmps14
  go_wp2_with (first
    | (have hgo := Bw0; clear hgo
       go_at_call 25
       refine (check_to _ key _ l1 _ l2 _ l3 65568 _ _ x_b f_1 f_2 f_3 HCK.out).mono ?_
       rintro e w1 ⟨rfl, kk⟩
       replace f_1 := zfb f_1 kk
       replace r_b := zrb r_b kk
       replace f_a := zfb f_a kk
       replace f_2 := zfb f_2 kk
       replace f_3 := zfb f_3 kk
       replace x_b := BoxAt.zf x_b kk
       have Bw1 := zbt HGS Bw0 kk
       clear Bw0 kk))
  obtain ⟨v_c, f_c, hrc⟩ := takeB f_3 k HK.out
  rw [← HCC.out] at f_c
  obtain ⟨v_e, f_e, hre⟩ := dropB f_3 k HK.out
  replace f_1 := f_1.drew
  replace f_2 := f_2.drew
  replace f_c := f_c.drew
  replace f_e := f_e.drew
  replace f_a := f_a.drew
  replace r_b := r_b.drew
  replace x_b := x_b.drew
  have Bw2 := Bw1.drew
  clear Bw1
  refine wp_region_lint (.rd 0 (.rd 1 (.rd 2 (.rd 3 (.rd 4 (.rd 5 (.rd 6 (.rd 7 (.rd 8 (.rd 9 (.rd 10 (.rd 11 (.wr 12 (.wr 13 (.rd 14 (.rd 15 .done)))))))))))))))) (by kernel_rfl) (by kernel_rfl) (by decide) (by kernel_rfl) (fun d _ _ _ _ h => by cases d <;> exact h) ?_
  refine lint_pure 23 _ _ (.int .i64 (k : Int)) rfl rfl rfl rfl rfl (fun wx hx => by unfold mkOp; go_simp; all_goals (with_reducible rfl)) ?_
  simp only [Act.put, zA, zB, zC]
  refine lint_pure 24 _ _ (.bool false) rfl rfl rfl rfl rfl (fun wx hx => by unfold mkOp; go_simp; all_goals (with_reducible rfl)) ?_
  simp only [Act.put, zA, zB, zC]
  refine lint_pure 25 _ _ (.bool false) rfl rfl rfl rfl rfl (fun wx hx => by unfold mkOp; go_simp; all_goals (with_reducible rfl)) ?_
  simp only [Act.put, zA, zB, zC]
  refine lint_pure 26 _ _ (.slice ad3 n3 c3) rfl rfl rfl rfl rfl (fun wx hx => by unfold mkOp; go_simp; all_goals (with_reducible rfl)) ?_
  simp only [Act.put, zA, zB, zC]
  refine lint_pure 27 _ _ (.int .i64 (k : Int)) rfl rfl rfl rfl rfl (fun wx hx => by unfold mkOp; go_simp; all_goals (with_reducible rfl)) ?_
  simp only [Act.put, zA, zB, zC]
  refine lint_pure 28 _ _ (v_e) rfl rfl rfl rfl rfl (fun wx hx => by exact hre _ _ _ _ _ rfl rfl) ?_
  simp only [Act.put, zA, zB, zC]
  refine lint_pure 29 _ _ (.pointer (some ⟨yb, 0, none⟩)) rfl rfl rfl rfl rfl (fun wx hx => by unfold mkOp; go_simp; all_goals (with_reducible rfl)) ?_
  simp only [Act.put, zA, zB, zC]
  refine lint_pure 30 _ _ (.slice ad1 n1 c1) rfl rfl rfl rfl rfl (fun wx hx => by unfold mkOp; go_simp; all_goals (with_reducible rfl)) ?_
  simp only [Act.put, zA, zB, zC]
  refine lint_pure 31 _ _ (.slice ad2 n2 c2) rfl rfl rfl rfl rfl (fun wx hx => by unfold mkOp; go_simp; all_goals (with_reducible rfl)) ?_
  simp only [Act.put, zA, zB, zC]
  refine lint_pure 32 _ _ (.slice ad3 n3 c3) rfl rfl rfl rfl rfl (fun wx hx => by unfold mkOp; go_simp; all_goals (with_reducible rfl)) ?_
  simp only [Act.put, zA, zB, zC]
  refine lint_pure 33 _ _ (.int .i64 (k : Int)) rfl rfl rfl rfl rfl (fun wx hx => by unfold mkOp; go_simp; all_goals (with_reducible rfl)) ?_
  simp only [Act.put, zA, zB, zC]
  refine lint_pure 34 _ _ (v_c) rfl rfl rfl rfl rfl (fun wx hx => by exact hrc _ _ _ _ _ rfl rfl) ?_
  simp only [Act.put, zA, zB, zC]
  refine stp_fn 35 28 _ _ _ (marked_any _ key _ l1 _ l2 _ c _ x_b f_1 f_2 f_c H12.out HS.out.2 (by have := HCL.out; omega)) rfl rfl rfl rfl Try.func28 (by kernel_rfl) (by kernel_rfl) (by go_simp) ?_
  rintro e wq35 ⟨v_35, rfl, f_35, kk⟩
  refine ⟨_, rfl, kk, ?_⟩
  replace f_1 := zfb f_1 kk
  replace f_2 := zfb f_2 kk
  replace f_c := zfb f_c kk
  replace f_e := zfb f_e kk
  replace f_a := zfb f_a kk
  replace r_b := zrb r_b kk
  replace x_b := BoxAt.zf x_b kk
  have Bw3 := zbt HGS Bw2 kk
  clear Bw2 kk
  simp only [Act.put, zA, zB, zC]
  refine stp_fn 36 29 _ _ _ (equal_to _ _ (l3.drop k) (macL key l1 l2 c) (!b) _ f_e f_35 HBB.out) rfl rfl rfl rfl Try.func29 (by kernel_rfl) (by kernel_rfl) (by go_simp) ?_
  rintro e wq36 ⟨rfl, rfl⟩
  refine ⟨_, rfl, Below.refl _ _, ?_⟩
  simp only [Act.put, zA, zB, zC]
  refine lint_pure 37 _ _ (.bool (!!b)) rfl rfl rfl rfl rfl (fun wx hx => by unfold mkOp; go_simp; all_goals (with_reducible rfl)) ?_
  simp only [Act.put, zA, zB, zC]
  refine lint_pure 38 _ _ (.bool (!!b)) rfl rfl rfl rfl rfl (fun wx hx => by unfold mkOp; go_simp; all_goals (with_reducible rfl)) ?_
  simp only [Act.put, zA, zB, zC]
  refine lint_end ?_
  cases b with
  | true =>
    go_wp2
    go_ret2
    exact ⟨_, rfl, Bs.nil _, Bw3⟩
  | false =>
    go_wp2
    clear f_e f_35 x_b f_2
    replace f_1 := f_1.drew
    replace f_c := f_c.drew
    replace f_a := f_a.drew
    replace r_b := r_b.drew
    have Bw4 := Bw3.drew
    clear Bw3
    refine wp_region_lint (.rd 0 (.rd 1 (.rd 2 (.rd 3 (.rd 4 (.rd 5 (.rd 6 (.rd 7 (.wr 8 (.rd 9 (.rd 10 (.rd 11 (.rd 12 .done))))))))))))) (by kernel_rfl) (by kernel_rfl) (by decide) (by kernel_rfl) (fun d _ _ _ _ h => by cases d <;> exact h) ?_
    refine lint_pure 39 _ _ (.pointer (some ⟨yb, 0, none⟩)) rfl rfl rfl rfl rfl (fun wx hx => by unfold mkOp; go_simp; all_goals (with_reducible rfl)) ?_
    simp only [Act.put, zA, zB, zC]
    refine lint_pure 40 _ _ (.pointer (some ⟨yb, 0, none⟩)) rfl rfl rfl rfl rfl (fun wx hx => by unfold mkOp; go_simp; all_goals (with_reducible rfl)) ?_
    simp only [Act.put, zA, zB, zC]
    refine lint_pure 41 _ _ (.pointer (some ⟨yb, 0, none⟩)) rfl rfl rfl rfl rfl (fun wx hx => by unfold mkOp; go_simp; all_goals (with_reducible rfl)) ?_
    simp only [Act.put, zA, zB, zC]
    refine lint_pure 42 _ _ (v_a) rfl rfl rfl rfl rfl (fun wx hx => by exact exec_load_cell _ _ _ _ rfl (by kernel_rfl) ((zrb r_b hx).cell (by omega))) ?_
    simp only [Act.put, zA, zB, zC]
    refine lint_pure 43 _ _ (.slice ad1 n1 c1) rfl rfl rfl rfl rfl (fun wx hx => by unfold mkOp; go_simp; all_goals (with_reducible rfl)) ?_
    simp only [Act.put, zA, zB, zC]
    refine lint_pure 44 _ _ (.slice ad3 n3 c3) rfl rfl rfl rfl rfl (fun wx hx => by unfold mkOp; go_simp; all_goals (with_reducible rfl)) ?_
    simp only [Act.put, zA, zB, zC]
    refine lint_pure 45 _ _ (.int .i64 (k : Int)) rfl rfl rfl rfl rfl (fun wx hx => by unfold mkOp; go_simp; all_goals (with_reducible rfl)) ?_
    simp only [Act.put, zA, zB, zC]
    refine lint_pure 46 _ _ (v_c) rfl rfl rfl rfl rfl (fun wx hx => by exact hrc _ _ _ _ _ rfl rfl) ?_
    simp only [Act.put, zA, zB, zC]
    refine stp_fn 47 26 _ _ _ (crypt_to _ _ _ key l1 c OL _ f_a f_1 H12.out f_c HCL.out HO.out) rfl rfl rfl rfl Try.func26 (by kernel_rfl) (by kernel_rfl) (by go_simp) ?_
    rintro e wq47 ⟨v_47, rfl, f_47, kk⟩
    refine ⟨_, rfl, kk, ?_⟩
    replace f_1 := zfb f_1 kk
    replace f_c := zfb f_c kk
    replace f_a := zfb f_a kk
    replace r_b := zrb r_b kk
    have Bw5 := zbt HGS Bw4 kk
    clear Bw4 kk
    simp only [Act.put, zA, zB, zC]
    refine lint_pure 48 _ _ (v_47) rfl rfl rfl rfl rfl (fun wx hx => by unfold mkOp; go_simp; all_goals (with_reducible rfl)) ?_
    simp only [Act.put, zA, zB, zC]
    refine lint_pure 49 _ _ (.int .i64 0) rfl rfl rfl rfl rfl (fun wx hx => by unfold mkOp; go_simp; all_goals (with_reducible rfl)) ?_
    simp only [Act.put, zA, zB, zC]
    refine lint_pure 8 _ _ (v_47) rfl rfl rfl rfl rfl (fun wx hx => by unfold mkOp; go_simp; all_goals (with_reducible rfl)) ?_
    simp only [Act.put, zA, zB, zC]
    refine lint_pure 9 _ _ (.int .i64 0) rfl rfl rfl rfl rfl (fun wx hx => by unfold mkOp; go_simp; all_goals (with_reducible rfl)) ?_
    simp only [Act.put, zA, zB, zC]
    refine lint_end ?_
    go_wp2
    go_ret2
    exact ⟨_, rfl, f_47, Bw5⟩
theorem boxSeal_to (v0 : Value) (key : List UInt8) (v1 : Value) (l1 : List UInt8) (v2 : Value) (l2 : List UInt8) (v3 : Value) (l3 : List UInt8) (w : World) (h0 : BoxAt w v0 key) (h1 : Bs w v1 l1) (h2 : Bs w v2 l2) (h3 : Bs w v3 l3) : Calls Try.prog 13 #[v0, v1, v2, v3] w fun e w' => ∃ v, e = .returned (.tuple #[v, .int .i64 (seE key l1 l2 l3)]) ∧ Bs w' v (seL key l1 l2 l3) ∧ Below w.heap.size w w' := by
  by_cases h : okK key l1
  · by_cases k : okSz 65536 l2 l3
    · have g := seE_ok h k
      rw [g.1, g.2]
      exact boxSeal_any v0 key v1 l1 v2 l2 v3 l3 w h0 h1 h2 h3 h.2 k
    · have g := seE_big h k
      rw [g.1, g.2]
      refine (boxSeal_big v0 key v1 l1 v2 l2 v3 l3 w h0 h1 h2 h3 h.2 k).mono ?_
      rintro e w' ⟨rfl, kk⟩
      exact ⟨_, rfl, Bs.nil _, kk⟩
  · have g := seE_arg (l2 := l2) (l3 := l3) h
    rw [g.1, g.2]
    refine (boxSeal_arg v0 key v1 l1 v2 l2 v3 l3 w h0 h1 h2 h3 (fun h12 => h ⟨h0.len, h12⟩)).mono ?_
    rintro e w' ⟨rfl, kk⟩
    exact ⟨_, rfl, Bs.nil _, kk⟩
theorem boxOpen_to (v0 : Value) (key : List UInt8) (v1 : Value) (l1 : List UInt8) (v2 : Value) (l2 : List UInt8) (v3 : Value) (l3 : List UInt8) (w : World) (h0 : BoxAt w v0 key) (h1 : Bs w v1 l1) (h2 : Bs w v2 l2) (h3 : Bs w v3 l3) : Calls Try.prog 14 #[v0, v1, v2, v3] w fun e w' => ∃ v, e = .returned (.tuple #[v, .int .i64 (opE key l1 l2 l3)]) ∧ Bs w' v (opL key l1 l2 l3) ∧ Below w.heap.size w w' := by
  by_cases h : okK key l1
  · by_cases k : okSz 65568 l2 l3
    · by_cases s : l3.length < 32
      · have g := opE_short h k s
        rw [g.1, g.2]
        refine (boxOpen_short v0 key v1 l1 v2 l2 v3 l3 w h0 h1 h2 h3 h.2 k s).mono ?_
        rintro e w' ⟨rfl, kk⟩
        exact ⟨_, rfl, Bs.nil _, kk⟩
      · have g := opE_ok h k s
        rw [g.1, g.2]
        exact boxOpen_any v0 key v1 l1 v2 l2 v3 l3 w h0 h1 h2 h3 h.2 k s
    · have g := opE_big h k
      rw [g.1, g.2]
      refine (boxOpen_big v0 key v1 l1 v2 l2 v3 l3 w h0 h1 h2 h3 h.2 k).mono ?_
      rintro e w' ⟨rfl, kk⟩
      exact ⟨_, rfl, Bs.nil _, kk⟩
  · have g := opE_arg (l2 := l2) (l3 := l3) h
    rw [g.1, g.2]
    refine (boxOpen_arg v0 key v1 l1 v2 l2 v3 l3 w h0 h1 h2 h3 (fun h12 => h ⟨h0.len, h12⟩)).mono ?_
    rintro e w' ⟨rfl, kk⟩
    exact ⟨_, rfl, Bs.nil _, kk⟩
set_option maxHeartbeats 4000000 in
set_option maxRecDepth 20000 in
theorem pSeal_to (v0 : Value) (l0 : List UInt8) (v1 : Value) (l1 : List UInt8) (v2 : Value) (l2 : List UInt8) (v3 : Value) (l3 : List UInt8) (w : World) (h0 : Bs w v0 l0) (h1 : Bs w v1 l1) (h2 : Bs w v2 l2) (h3 : Bs w v3 l3) : Calls Try.prog 8 #[v0, v1, v2, v3] w fun e w' => ∃ v, e = .returned (.tuple #[v, .int .i64 (seE l0 l1 l2 l3)]) ∧ Bs w' v (seL l0 l1 l2 l3) ∧ Below w.heap.size w w' := by
  have Bw0 := Below.refl w.heap.size w
  have HGS : Hid (∀ wq : World, Below w.heap.size w wq → w.heap.size ≤ wq.heap.size) := Lib.hid fun wq h => h.size
  by_cases hl : l0.length = 32
  · have HL := Lib.hid hl
    obtain ⟨E, hE⟩ : ∃ E, E = seE l0 l1 l2 l3 := ⟨_, rfl⟩
    have HE := Lib.hid hE.symm
    rw [← hE]
    clear hE hl
    go_enter Try.func8, Try.ntmps8
    go_wp2_with (first
      | (have hgo := Bw0; clear hgo
         go_at_call 12
         refine (newBox_yes _ l0 _ h0 HL.out).mono ?_
         rintro e w1 ⟨v_b, rfl, x_b, kk⟩
         replace h1 := zfb h1 kk
         replace h2 := zfb h2 kk
         replace h3 := zfb h3 kk
         have Bw1 := zbt HGS Bw0 kk
         clear Bw0 kk h0)
      | (have hgo := Bw1; clear hgo
         go_at_call 13
         refine (boxSeal_to _ l0 _ l1 _ l2 _ l3 _ x_b h1 h2 h3).mono ?_
         rw [HE.out]
         rintro e w2 ⟨v_x, rfl, f_x, kk⟩
         have Bw2 := zbt HGS Bw1 kk
         clear Bw1 kk x_b h1 h2 h3))
    go_ret2
    exact ⟨_, rfl, f_x, Bw2⟩
  · have HL := Lib.hid hl
    have g := seE_arg (l0 := l0) (l1 := l1) (l2 := l2) (l3 := l3) (fun h => hl h.1)
    rw [g.1, g.2]
    clear g hl
    go_enter Try.func8, Try.ntmps8
    go_wp2_with (first
      | (have hgo := Bw0; clear hgo
         go_at_call 12
         refine (newBox_no _ l0 _ h0 HL.out).mono ?_
         rintro e w1 ⟨rfl, kk⟩
         have Bw1 := zbt HGS Bw0 kk
         clear Bw0 kk h0))
    go_ret2
    exact ⟨_, rfl, Bs.nil _, Bw1⟩
set_option maxHeartbeats 4000000 in
set_option maxRecDepth 20000 in
theorem pOpen_to (v0 : Value) (l0 : List UInt8) (v1 : Value) (l1 : List UInt8) (v2 : Value) (l2 : List UInt8) (v3 : Value) (l3 : List UInt8) (w : World) (h0 : Bs w v0 l0) (h1 : Bs w v1 l1) (h2 : Bs w v2 l2) (h3 : Bs w v3 l3) : Calls Try.prog 10 #[v0, v1, v2, v3] w fun e w' => ∃ v, e = .returned (.tuple #[v, .int .i64 (opE l0 l1 l2 l3)]) ∧ Bs w' v (opL l0 l1 l2 l3) ∧ Below w.heap.size w w' := by
  have Bw0 := Below.refl w.heap.size w
  have HGS : Hid (∀ wq : World, Below w.heap.size w wq → w.heap.size ≤ wq.heap.size) := Lib.hid fun wq h => h.size
  by_cases hl : l0.length = 32
  · have HL := Lib.hid hl
    obtain ⟨E, hE⟩ : ∃ E, E = opE l0 l1 l2 l3 := ⟨_, rfl⟩
    have HE := Lib.hid hE.symm
    rw [← hE]
    clear hE hl
    go_enter Try.func10, Try.ntmps10
    go_wp2_with (first
      | (have hgo := Bw0; clear hgo
         go_at_call 12
         refine (newBox_yes _ l0 _ h0 HL.out).mono ?_
         rintro e w1 ⟨v_b, rfl, x_b, kk⟩
         replace h1 := zfb h1 kk
         replace h2 := zfb h2 kk
         replace h3 := zfb h3 kk
         have Bw1 := zbt HGS Bw0 kk
         clear Bw0 kk h0)
      | (have hgo := Bw1; clear hgo
         go_at_call 14
         refine (boxOpen_to _ l0 _ l1 _ l2 _ l3 _ x_b h1 h2 h3).mono ?_
         rw [HE.out]
         rintro e w2 ⟨v_x, rfl, f_x, kk⟩
         have Bw2 := zbt HGS Bw1 kk
         clear Bw1 kk x_b h1 h2 h3))
    go_ret2
    exact ⟨_, rfl, f_x, Bw2⟩
  · have HL := Lib.hid hl
    have g := opE_arg (l0 := l0) (l1 := l1) (l2 := l2) (l3 := l3) (fun h => hl h.1)
    rw [g.1, g.2]
    clear g hl
    go_enter Try.func10, Try.ntmps10
    go_wp2_with (first
      | (have hgo := Bw0; clear hgo
         go_at_call 12
         refine (newBox_no _ l0 _ h0 HL.out).mono ?_
         rintro e w1 ⟨rfl, kk⟩
         have Bw1 := zbt HGS Bw0 kk
         clear Bw0 kk h0))
    go_ret2
    exact ⟨_, rfl, Bs.nil _, Bw1⟩
end Go.Proofs.Ytclbfbkbmiijnaa

/- The program's boxes: awake. -/
namespace Go.Proofs.Ytclbfbkbmiijnaa
open Go.RowKit Go.Deep
set_option linter.unusedSimpArgs false
set_option linter.unusedVariables false

theorem stp_makeN {ops : Array Oper} {Q : Exit → Act → World → Prop} {i : Nat} {r : Stp} {a : Act} {w : World} {o : Oper} (d : Nat) (x : Operand) (n : Nat) (ho : ops[i]? = some o) (hd : o.dst = some d) (hop : o.op = .makeSlice 22 x x) (hw : Region.wanted o (yielded ops a.tmps) = true) (hx : a.eval x = .int .i64 (n : Int)) (hn : n ≤ 2147483647)
    (h : ∀ w' v, Bs w' v (List.replicate n 0) → Below w.heap.size w w' → LinT Try.prog ops Q r (a.put (some d) v) w') : wpOp Try.prog ops Q i (fun a' w' => Below w.heap.size w w' ∧ LinT Try.prog ops Q r a' w') a w :=
  have hb : Below w.heap.size w (w.alloc (.cells (madeCells #[.int .u8 0] n) 5)) := (Below.refl _ _).alloc (Nat.le_refl _) _
  stp_made d _ _ _ _ ho hd hop rfl hw (exec_makeN a.eval x _ n hx hn) hb (h _ _ (made_own w n (by unfold maxLen; omega)).bs hb)
theorem wpList_strG {ops : Array Oper} {rest : List Oper} {o : Oper} {a : Act} {w : World} {Q : Exit → Act → World → Prop} {x : Operand} {v : Value} {l : List UInt8} (ho : o.op = .convert 22 9 x) (hx : a.eval x = v) (hB : Bs w v l) (hw : Region.wanted o (yielded ops a.tmps) = true)
    (h : wpList Try.prog ops Q rest (a.put o.dst (.string ⟨l.toArray⟩)) w) : wpList Try.prog ops Q (o :: rest) a w :=
  wpList_value_given hw _ (by rw [exec_mkOp, ho]; exact exec_str _ _ _ hx hB) h
theorem wpList_seqG {ops : Array Oper} {rest : List Oper} {o : Oper} {a : Act} {w : World} {Q : Exit → Act → World → Prop} {x y : Operand} {l : List UInt8} (ho : o.op = .binOp .eql 9 x y 9) (hx : a.eval x = .string ⟨l.toArray⟩) (hy : a.eval y = .string ⟨l.toArray⟩) (hw : Region.wanted o (yielded ops a.tmps) = true)
    (h : wpList Try.prog ops Q rest (a.put o.dst (.bool true)) w) : wpList Try.prog ops Q (o :: rest) a w :=
  wpList_value_given hw _ (by rw [exec_mkOp, ho]; exact exec_str_yes _ _ _ _ rfl hx hy) h
def key0 : List UInt8 := List.replicate 32 0
def non0 : List UInt8 := List.replicate 12 0
theorem okK_0 : okK key0 non0 := ⟨List.length_replicate, List.length_replicate⟩
theorem aw_seal (v0 v1 : Value) (w : World) (h0 : Bs w v0 key0) (h1 : Bs w v1 non0) : Calls Try.prog 8 #[v0, v1, .slice none 0 0, .slice none 0 0] w fun e w' => ∃ v, e = .returned (.tuple #[v, .int .i64 0]) ∧ Bs w' v (boxL key0 non0 [] []) ∧ Below w.heap.size w w' := by
  have g := seE_ok (l2 := []) (l3 := []) okK_0 ⟨by decide, by decide⟩
  rw [← g.1, ← g.2]
  exact pSeal_to v0 _ v1 _ _ [] _ [] w h0 h1 (Bs.nil _) (Bs.nil _)
theorem aw_open (v0 v1 : Value) (w : World) (h0 : Bs w v0 key0) (h1 : Bs w v1 non0) : Calls Try.prog 10 #[v0, v1, .slice none 0 0, .slice none 0 0] w fun e w' => ∃ v, e = .returned (.tuple #[v, .int .i64 2]) ∧ Bs w' v [] ∧ Below w.heap.size w w' := by
  have g := opE_short (l2 := []) (l3 := []) okK_0 ⟨by decide, by decide⟩ (by decide)
  rw [← g.1, ← g.2]
  exact pOpen_to v0 _ v1 _ _ [] _ [] w h0 h1 (Bs.nil _) (Bs.nil _)
set_option maxHeartbeats 4000000 in
set_option maxRecDepth 20000 in
theorem awake13_any (w : World) : Calls Try.prog 7 #[] w fun e w' => e = .returned (.bool true) ∧ Below w.heap.size w w' := by
  have Bw0 := Below.refl w.heap.size w
  have HGS : Hid (∀ wq : World, Below w.heap.size w wq → w.heap.size ≤ wq.heap.size) := Lib.hid fun wq h => h.size
  have HLX : Hid ((boxL key0 non0 [] []).length = 32) := Lib.hid (by rw [boxL_len]; rfl)
  obtain ⟨X, hX⟩ : ∃ X, X = boxL key0 non0 [] [] := ⟨_, rfl⟩
  have HS := Lib.hid fun v0 v1 w h0 h1 => aw_seal v0 v1 w h0 h1
  rw [← hX] at HS HLX
  clear hX
  go_enter Try.func7, Try.ntmps7
  go_wp2
  have Bw1 := Bw0.drew
  clear Bw0
  refine wp_region_lint (.br 0 (.wr 1 (.wr 2 (.rd 3 (.rd 4 (.rd 5 (.rd 6 (.rd 7 .done))))))) 1 (.wr 0 (.wr 2 (.rd 3 (.rd 4 (.rd 5 (.rd 6 (.rd 7 .done)))))))) (by kernel_rfl) (by kernel_rfl) (by decide) (by kernel_rfl) (fun d _ _ _ _ h => by cases d <;> exact h) ?_
  refine ⟨?_, ?_⟩
  · skip
    refine stp_makeN 6 (.const (.int .i64 32)) 32 rfl rfl rfl rfl rfl (by decide) ?_
    intro wq6 v_6 f_6 kk
    have Bw2 := zbt HGS Bw1 kk
    clear Bw1 kk
    simp only [Act.put, zA, zB, zC]
    refine stp_makeN 7 (.const (.int .i64 12)) 12 rfl rfl rfl rfl rfl (by decide) ?_
    intro wq7 v_7 f_7 kk
    replace f_6 := zfb f_6 kk
    have Bw3 := zbt HGS Bw2 kk
    clear Bw2 kk
    simp only [Act.put, zA, zB, zC]
    refine stp_fn 8 8 _ _ _ (HS.out _ _ _ f_6 f_7) rfl rfl rfl rfl Try.func8 (by kernel_rfl) (by kernel_rfl) (by go_simp) ?_
    rintro e wq8 ⟨v_8, rfl, f_8, kk⟩
    refine ⟨_, rfl, kk, ?_⟩
    replace f_6 := zfb f_6 kk
    replace f_7 := zfb f_7 kk
    have Bw4 := zbt HGS Bw3 kk
    clear Bw3 kk
    simp only [Act.put, zA, zB, zC]
    refine lint_pure 5 _ _ (.tuple #[v_8, .int .i64 0]) rfl rfl rfl rfl rfl (fun wx hx => by unfold mkOp; go_simp; all_goals (with_reducible rfl)) ?_
    simp only [Act.put, zA, zB, zC]
    refine lint_pure 9 _ _ (v_8) rfl rfl rfl rfl rfl (fun wx hx => by unfold mkOp; go_simp; all_goals (with_reducible rfl)) ?_
    simp only [Act.put, zA, zB, zC]
    refine lint_pure 10 _ _ (.int .i64 0) rfl rfl rfl rfl rfl (fun wx hx => by unfold mkOp; go_simp; all_goals (with_reducible rfl)) ?_
    simp only [Act.put, zA, zB, zC]
    refine lint_pure 1 _ _ (v_8) rfl rfl rfl rfl rfl (fun wx hx => by unfold mkOp; go_simp; all_goals (with_reducible rfl)) ?_
    simp only [Act.put, zA, zB, zC]
    refine lint_pure 2 _ _ (.int .i64 0) rfl rfl rfl rfl rfl (fun wx hx => by unfold mkOp; go_simp; all_goals (with_reducible rfl)) ?_
    simp only [Act.put, zA, zB, zC]
    refine lint_end ?_
    obtain ⟨ad_x, n_x, c_x, rfl, he, hy, hz, _⟩ := f_8.shape
    have hn : n_x = 32 := by rw [← he]; exact HLX.out
    subst hn
    clear he hy hz f_8 f_6 f_7
    go_wp2
    have Bw5 := Bw4.drew
    clear Bw4
    refine wp_region_lint (.br 0 (.wr 1 (.wr 2 (.rd 3 (.rd 4 (.rd 5 (.rd 6 (.rd 7 .done))))))) 1 (.wr 0 (.wr 2 (.rd 3 (.rd 4 (.rd 5 (.rd 6 (.rd 7 .done)))))))) (by kernel_rfl) (by kernel_rfl) (by decide) (by kernel_rfl) (fun d _ _ _ _ h => by cases d <;> exact h) ?_
    refine ⟨?_, ?_⟩
    · skip
      refine stp_makeN 12 (.const (.int .i64 32)) 32 rfl rfl rfl rfl rfl (by decide) ?_
      intro wq12 v_12 f_12 kk
      have Bw6 := zbt HGS Bw5 kk
      clear Bw5 kk
      simp only [Act.put, zA, zB, zC]
      refine stp_makeN 13 (.const (.int .i64 12)) 12 rfl rfl rfl rfl rfl (by decide) ?_
      intro wq13 v_13 f_13 kk
      replace f_12 := zfb f_12 kk
      have Bw7 := zbt HGS Bw6 kk
      clear Bw6 kk
      simp only [Act.put, zA, zB, zC]
      refine stp_fn 14 10 _ _ _ (aw_open _ _ _ f_12 f_13) rfl rfl rfl rfl Try.func10 (by kernel_rfl) (by kernel_rfl) (by go_simp) ?_
      rintro e wq14 ⟨v_14, rfl, f_14, kk⟩
      refine ⟨_, rfl, kk, ?_⟩
      replace f_12 := zfb f_12 kk
      replace f_13 := zfb f_13 kk
      have Bw8 := zbt HGS Bw7 kk
      clear Bw7 kk
      simp only [Act.put, zA, zB, zC]
      refine lint_pure 11 _ _ (.tuple #[v_14, .int .i64 2]) rfl rfl rfl rfl rfl (fun wx hx => by unfold mkOp; go_simp; all_goals (with_reducible rfl)) ?_
      simp only [Act.put, zA, zB, zC]
      refine lint_pure 15 _ _ (v_14) rfl rfl rfl rfl rfl (fun wx hx => by unfold mkOp; go_simp; all_goals (with_reducible rfl)) ?_
      simp only [Act.put, zA, zB, zC]
      refine lint_pure 16 _ _ (.int .i64 2) rfl rfl rfl rfl rfl (fun wx hx => by unfold mkOp; go_simp; all_goals (with_reducible rfl)) ?_
      simp only [Act.put, zA, zB, zC]
      refine lint_pure 3 _ _ (v_14) rfl rfl rfl rfl rfl (fun wx hx => by unfold mkOp; go_simp; all_goals (with_reducible rfl)) ?_
      simp only [Act.put, zA, zB, zC]
      refine lint_pure 4 _ _ (.int .i64 2) rfl rfl rfl rfl rfl (fun wx hx => by unfold mkOp; go_simp; all_goals (with_reducible rfl)) ?_
      simp only [Act.put, zA, zB, zC]
      refine lint_end ?_
      go_wp2
      go_ret
      exact ⟨rfl, Bw8⟩
    · skip
      refine stp_makeN 13 (.const (.int .i64 12)) 12 rfl rfl rfl rfl rfl (by decide) ?_
      intro wq13 v_13 f_13 kk
      have Bw6 := zbt HGS Bw5 kk
      clear Bw5 kk
      simp only [Act.put, zA, zB, zC]
      refine stp_makeN 12 (.const (.int .i64 32)) 32 rfl rfl rfl rfl rfl (by decide) ?_
      intro wq12 v_12 f_12 kk
      replace f_13 := zfb f_13 kk
      have Bw7 := zbt HGS Bw6 kk
      clear Bw6 kk
      simp only [Act.put, zA, zB, zC]
      refine stp_fn 14 10 _ _ _ (aw_open _ _ _ f_12 f_13) rfl rfl rfl rfl Try.func10 (by kernel_rfl) (by kernel_rfl) (by go_simp) ?_
      rintro e wq14 ⟨v_14, rfl, f_14, kk⟩
      refine ⟨_, rfl, kk, ?_⟩
      replace f_13 := zfb f_13 kk
      replace f_12 := zfb f_12 kk
      have Bw8 := zbt HGS Bw7 kk
      clear Bw7 kk
      simp only [Act.put, zA, zB, zC]
      refine lint_pure 11 _ _ (.tuple #[v_14, .int .i64 2]) rfl rfl rfl rfl rfl (fun wx hx => by unfold mkOp; go_simp; all_goals (with_reducible rfl)) ?_
      simp only [Act.put, zA, zB, zC]
      refine lint_pure 15 _ _ (v_14) rfl rfl rfl rfl rfl (fun wx hx => by unfold mkOp; go_simp; all_goals (with_reducible rfl)) ?_
      simp only [Act.put, zA, zB, zC]
      refine lint_pure 16 _ _ (.int .i64 2) rfl rfl rfl rfl rfl (fun wx hx => by unfold mkOp; go_simp; all_goals (with_reducible rfl)) ?_
      simp only [Act.put, zA, zB, zC]
      refine lint_pure 3 _ _ (v_14) rfl rfl rfl rfl rfl (fun wx hx => by unfold mkOp; go_simp; all_goals (with_reducible rfl)) ?_
      simp only [Act.put, zA, zB, zC]
      refine lint_pure 4 _ _ (.int .i64 2) rfl rfl rfl rfl rfl (fun wx hx => by unfold mkOp; go_simp; all_goals (with_reducible rfl)) ?_
      simp only [Act.put, zA, zB, zC]
      refine lint_end ?_
      go_wp2
      go_ret
      exact ⟨rfl, Bw8⟩
  · skip
    refine stp_makeN 7 (.const (.int .i64 12)) 12 rfl rfl rfl rfl rfl (by decide) ?_
    intro wq7 v_7 f_7 kk
    have Bw2 := zbt HGS Bw1 kk
    clear Bw1 kk
    simp only [Act.put, zA, zB, zC]
    refine stp_makeN 6 (.const (.int .i64 32)) 32 rfl rfl rfl rfl rfl (by decide) ?_
    intro wq6 v_6 f_6 kk
    replace f_7 := zfb f_7 kk
    have Bw3 := zbt HGS Bw2 kk
    clear Bw2 kk
    simp only [Act.put, zA, zB, zC]
    refine stp_fn 8 8 _ _ _ (HS.out _ _ _ f_6 f_7) rfl rfl rfl rfl Try.func8 (by kernel_rfl) (by kernel_rfl) (by go_simp) ?_
    rintro e wq8 ⟨v_8, rfl, f_8, kk⟩
    refine ⟨_, rfl, kk, ?_⟩
    replace f_7 := zfb f_7 kk
    replace f_6 := zfb f_6 kk
    have Bw4 := zbt HGS Bw3 kk
    clear Bw3 kk
    simp only [Act.put, zA, zB, zC]
    refine lint_pure 5 _ _ (.tuple #[v_8, .int .i64 0]) rfl rfl rfl rfl rfl (fun wx hx => by unfold mkOp; go_simp; all_goals (with_reducible rfl)) ?_
    simp only [Act.put, zA, zB, zC]
    refine lint_pure 9 _ _ (v_8) rfl rfl rfl rfl rfl (fun wx hx => by unfold mkOp; go_simp; all_goals (with_reducible rfl)) ?_
    simp only [Act.put, zA, zB, zC]
    refine lint_pure 10 _ _ (.int .i64 0) rfl rfl rfl rfl rfl (fun wx hx => by unfold mkOp; go_simp; all_goals (with_reducible rfl)) ?_
    simp only [Act.put, zA, zB, zC]
    refine lint_pure 1 _ _ (v_8) rfl rfl rfl rfl rfl (fun wx hx => by unfold mkOp; go_simp; all_goals (with_reducible rfl)) ?_
    simp only [Act.put, zA, zB, zC]
    refine lint_pure 2 _ _ (.int .i64 0) rfl rfl rfl rfl rfl (fun wx hx => by unfold mkOp; go_simp; all_goals (with_reducible rfl)) ?_
    simp only [Act.put, zA, zB, zC]
    refine lint_end ?_
    obtain ⟨ad_x, n_x, c_x, rfl, he, hy, hz, _⟩ := f_8.shape
    have hn : n_x = 32 := by rw [← he]; exact HLX.out
    subst hn
    clear he hy hz f_8 f_6 f_7
    go_wp2
    have Bw5 := Bw4.drew
    clear Bw4
    refine wp_region_lint (.br 0 (.wr 1 (.wr 2 (.rd 3 (.rd 4 (.rd 5 (.rd 6 (.rd 7 .done))))))) 1 (.wr 0 (.wr 2 (.rd 3 (.rd 4 (.rd 5 (.rd 6 (.rd 7 .done)))))))) (by kernel_rfl) (by kernel_rfl) (by decide) (by kernel_rfl) (fun d _ _ _ _ h => by cases d <;> exact h) ?_
    refine ⟨?_, ?_⟩
    · skip
      refine stp_makeN 12 (.const (.int .i64 32)) 32 rfl rfl rfl rfl rfl (by decide) ?_
      intro wq12 v_12 f_12 kk
      have Bw6 := zbt HGS Bw5 kk
      clear Bw5 kk
      simp only [Act.put, zA, zB, zC]
      refine stp_makeN 13 (.const (.int .i64 12)) 12 rfl rfl rfl rfl rfl (by decide) ?_
      intro wq13 v_13 f_13 kk
      replace f_12 := zfb f_12 kk
      have Bw7 := zbt HGS Bw6 kk
      clear Bw6 kk
      simp only [Act.put, zA, zB, zC]
      refine stp_fn 14 10 _ _ _ (aw_open _ _ _ f_12 f_13) rfl rfl rfl rfl Try.func10 (by kernel_rfl) (by kernel_rfl) (by go_simp) ?_
      rintro e wq14 ⟨v_14, rfl, f_14, kk⟩
      refine ⟨_, rfl, kk, ?_⟩
      replace f_12 := zfb f_12 kk
      replace f_13 := zfb f_13 kk
      have Bw8 := zbt HGS Bw7 kk
      clear Bw7 kk
      simp only [Act.put, zA, zB, zC]
      refine lint_pure 11 _ _ (.tuple #[v_14, .int .i64 2]) rfl rfl rfl rfl rfl (fun wx hx => by unfold mkOp; go_simp; all_goals (with_reducible rfl)) ?_
      simp only [Act.put, zA, zB, zC]
      refine lint_pure 15 _ _ (v_14) rfl rfl rfl rfl rfl (fun wx hx => by unfold mkOp; go_simp; all_goals (with_reducible rfl)) ?_
      simp only [Act.put, zA, zB, zC]
      refine lint_pure 16 _ _ (.int .i64 2) rfl rfl rfl rfl rfl (fun wx hx => by unfold mkOp; go_simp; all_goals (with_reducible rfl)) ?_
      simp only [Act.put, zA, zB, zC]
      refine lint_pure 3 _ _ (v_14) rfl rfl rfl rfl rfl (fun wx hx => by unfold mkOp; go_simp; all_goals (with_reducible rfl)) ?_
      simp only [Act.put, zA, zB, zC]
      refine lint_pure 4 _ _ (.int .i64 2) rfl rfl rfl rfl rfl (fun wx hx => by unfold mkOp; go_simp; all_goals (with_reducible rfl)) ?_
      simp only [Act.put, zA, zB, zC]
      refine lint_end ?_
      go_wp2
      go_ret
      exact ⟨rfl, Bw8⟩
    · skip
      refine stp_makeN 13 (.const (.int .i64 12)) 12 rfl rfl rfl rfl rfl (by decide) ?_
      intro wq13 v_13 f_13 kk
      have Bw6 := zbt HGS Bw5 kk
      clear Bw5 kk
      simp only [Act.put, zA, zB, zC]
      refine stp_makeN 12 (.const (.int .i64 32)) 32 rfl rfl rfl rfl rfl (by decide) ?_
      intro wq12 v_12 f_12 kk
      replace f_13 := zfb f_13 kk
      have Bw7 := zbt HGS Bw6 kk
      clear Bw6 kk
      simp only [Act.put, zA, zB, zC]
      refine stp_fn 14 10 _ _ _ (aw_open _ _ _ f_12 f_13) rfl rfl rfl rfl Try.func10 (by kernel_rfl) (by kernel_rfl) (by go_simp) ?_
      rintro e wq14 ⟨v_14, rfl, f_14, kk⟩
      refine ⟨_, rfl, kk, ?_⟩
      replace f_13 := zfb f_13 kk
      replace f_12 := zfb f_12 kk
      have Bw8 := zbt HGS Bw7 kk
      clear Bw7 kk
      simp only [Act.put, zA, zB, zC]
      refine lint_pure 11 _ _ (.tuple #[v_14, .int .i64 2]) rfl rfl rfl rfl rfl (fun wx hx => by unfold mkOp; go_simp; all_goals (with_reducible rfl)) ?_
      simp only [Act.put, zA, zB, zC]
      refine lint_pure 15 _ _ (v_14) rfl rfl rfl rfl rfl (fun wx hx => by unfold mkOp; go_simp; all_goals (with_reducible rfl)) ?_
      simp only [Act.put, zA, zB, zC]
      refine lint_pure 16 _ _ (.int .i64 2) rfl rfl rfl rfl rfl (fun wx hx => by unfold mkOp; go_simp; all_goals (with_reducible rfl)) ?_
      simp only [Act.put, zA, zB, zC]
      refine lint_pure 3 _ _ (v_14) rfl rfl rfl rfl rfl (fun wx hx => by unfold mkOp; go_simp; all_goals (with_reducible rfl)) ?_
      simp only [Act.put, zA, zB, zC]
      refine lint_pure 4 _ _ (.int .i64 2) rfl rfl rfl rfl rfl (fun wx hx => by unfold mkOp; go_simp; all_goals (with_reducible rfl)) ?_
      simp only [Act.put, zA, zB, zC]
      refine lint_end ?_
      go_wp2
      go_ret
      exact ⟨rfl, Bw8⟩
end Go.Proofs.Ytclbfbkbmiijnaa

/- From the reading of an argument to the words of the contracts: a slice of bytes, a slice of slices of bytes. -/
set_option linter.unusedSimpArgs false
set_option linter.unusedVariables false
namespace Go.Proofs.Ytclbfbkbmiijnaa
open Go.ChangeShapes Go.WideShapes Go.ChangeAt Go.RowKit Go.Deep

/-- The numbers of a row of bytes, as bytes. -/
def asB (zs : List Int) : List UInt8 := zs.map fun n => UInt8.ofNat n.toNat

theorem asB_at (n : Int) (h : 0 ≤ n ∧ n ≤ 255) : ((UInt8.ofNat n.toNat).toNat : Int) = n := by
  rw [UInt8.toNat_ofNat_of_lt' (by show n.toNat < 256; omega)]; omega

/-- A row of numbers whose cells are known, read as bytes. -/
theorem bs_of_cells {W : World} {a : Option Addr} {len cap : Nat} {zs : List Int} (hl : len ≤ cap) (hm : cap ≤ maxLen) (hz : zs.length = cap) (hn : a = none → cap = 0)
    (hwz : ∀ n ∈ zs, (Lit.int .u8 n).wf = true) (hcell : ∀ x, a = some x → ∀ i, i < cap → W.cell? (x.add i) = some (.int .u8 (zs.getD i 0))) : Bs W (.slice a len cap) (asB (zs.take len)) := by
  have hlen : (asB (zs.take len)).length = len := by simp [asB]; omega
  refine ⟨a, cap, by rw [hlen], by omega, hm, hn, fun y hy i hi => ?_⟩
  rw [hlen] at hi
  have hc := hcell y hy i (by omega)
  refine ⟨by rw [← add_block y i]; exact World.block_lt_of_cell? W _ hc, ?_⟩
  rw [hc]
  have hi2 : i < zs.length := by omega
  have hg : zs.getD i 0 = zs[i] := by simp [hi2]
  have hw := bd_u8 (hwz zs[i] (List.getElem_mem _))
  rw [← hg] at hw
  have e : (asB (zs.take len))[i]'(by rw [hlen]; exact hi) = UInt8.ofNat (zs.getD i 0).toNat := by
    simp [asB, List.getElem?_eq_getElem (show i < zs.length by omega)]
  rw [e, asB_at _ hw]

theorem bs_of_trod {H : Type} {enc : TypeId × Value → H} {W : World} {a : Option Addr} {len cap : Nat} {d : DataW H} {ps : List MemPlace}
    (h : DataW.Trod enc Try.prog W 0 (fun _ => true) true 22 (.slice a len cap) d ps) : ∃ l, Bs W (.slice a len cap) l := by
  obtain ⟨fuel, hf⟩ := h
  rcases open_ints Try.underlying22 Try.underlying5 (by kernel_rfl) hf with ⟨hcs, _⟩ | ⟨x, l, c, zs, hcs, _, hl, hm, hz, _, hcell, hwz⟩
  · simp [Value.cells] at hcs
    obtain ⟨rfl, rfl, rfl⟩ := hcs
    exact ⟨[], Bs.nil W⟩
  · simp [Value.cells] at hcs
    obtain ⟨rfl, rfl, rfl⟩ := hcs
    have hz' : zs.length = cap := by simpa using hz
    exact ⟨_, bs_of_cells hl hm hz' (fun h => by cases h) hwz (fun y hy i hi => by cases hy; exact hcell i (by omega))⟩

end Go.Proofs.Ytclbfbkbmiijnaa
