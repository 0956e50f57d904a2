/- The document's numbers below L: Mul. -/
import Derived.Test.YtncdlaidmiokiaaScE
namespace Go.Proofs.Ytncdlaidmiokiaa
open Go.RowKit Go.Deep
set_option linter.unusedSimpArgs false
set_option linter.unusedVariables false

def valB (f : Nat → Nat) : Nat → Nat
  | 0 => 0
  | n + 1 => valB f n + f n * 256 ^ n
theorem valB_zero : ∀ n, valB (fun _ => 0) n = 0
  | 0 => rfl
  | n + 1 => by rw [valB, valB_zero n, Nat.zero_mul]
def bump (f : Nat → Nat) (m d : Nat) : Nat → Nat := fun s => if s = m then f s + d else f s
theorem valB_out (f : Nat → Nat) (m d : Nat) : ∀ n, n ≤ m → valB (bump f m d) n = valB f n
  | 0, _ => rfl
  | n + 1, h => by
    rw [valB, valB, valB_out f m d n (by omega)]
    unfold bump
    rw [if_neg (by omega)]
theorem valB_bump (f : Nat → Nat) (m d : Nat) : ∀ n, m < n → valB (bump f m d) n = valB f n + d * 256 ^ m
  | 0, h => by omega
  | n + 1, h => by
    rw [valB, valB]
    by_cases e : n = m
    · subst e
      rw [valB_out f n d n (Nat.le_refl _)]
      unfold bump
      rw [if_pos rfl, Nat.add_mul]
      omega
    · rw [valB_bump f m d n (by omega)]
      unfold bump
      rw [if_neg e]
      omega
theorem valB_more (f : Nat → Nat) (s : Nat) : ∀ d, ∃ R, valB f (s + d) = valB f s + 256 ^ s * R
  | 0 => ⟨0, by simp⟩
  | d + 1 => by
    obtain ⟨R, hR⟩ := valB_more f s d
    refine ⟨R + f (s + d) * 256 ^ d, ?_⟩
    show valB f (s + d) + f (s + d) * 256 ^ (s + d) = _
    rw [hR, Nat.mul_add, Nat.pow_add]
    have : f (s + d) * (256 ^ s * 256 ^ d) = 256 ^ s * (f (s + d) * 256 ^ d) := by ac_rfl
    omega
/-- What is carried into the place s. -/
def cyV (f : Nat → Nat) (s : Nat) : Nat := valB f s / 256 ^ s
theorem cyV_zero (f : Nat → Nat) : cyV f 0 = 0 := by simp [cyV, valB]
theorem cyV_next (f : Nat → Nat) (s : Nat) : valB f (s + 1) / 256 ^ s = f s + cyV f s := by
  unfold cyV
  rw [valB, Nat.mul_comm (f s), Nat.add_mul_div_left _ _ (pow256_pos s)]
  omega
theorem cyV_step (f : Nat → Nat) (n s : Nat) (h : s < n) : byteN (valB f n) s = (f s + cyV f s) % 256 ∧ cyV f (s + 1) = (f s + cyV f s) / 256 := by
  constructor
  · obtain ⟨R, hR⟩ := valB_more f (s + 1) (n - (s + 1))
    rw [show s + 1 + (n - (s + 1)) = n by omega] at hR
    unfold byteN
    rw [hR, Nat.pow_succ, Nat.mul_assoc, Nat.add_mul_div_left _ _ (pow256_pos s), cyV_next, Nat.add_mul_mod_self_left]
  · rw [← cyV_next]
    unfold cyV
    rw [Nat.pow_succ, Nat.div_div_eq_div_mul]
theorem mul_step (A B i k V : Nat) (hi : i < 32) (hk : k < 32) (h : V + A % 256 ^ (31 - i) * B + byteN A (31 - i) * 256 ^ (31 - i) * (B % 256 ^ (32 - k)) = A * B) :
    V + byteN A (31 - i) * byteN B (31 - k) * 256 ^ (62 - i - k) + A % 256 ^ (31 - i) * B + byteN A (31 - i) * 256 ^ (31 - i) * (B % 256 ^ (32 - (k + 1))) = A * B := by
  rw [← h, show 32 - k = (31 - k) + 1 by omega, show 32 - (k + 1) = 31 - k by omega, mod_next B (31 - k), show 62 - i - k = (31 - i) + (31 - k) by omega, Nat.pow_add, Nat.mul_add]
  have : byteN A (31 - i) * byteN B (31 - k) * (256 ^ (31 - i) * 256 ^ (31 - k)) = byteN A (31 - i) * 256 ^ (31 - i) * (256 ^ (31 - k) * byteN B (31 - k)) := by ac_rfl
  omega
theorem mul_row (A B i V : Nat) (hi : i < 32) (hB : B < 256 ^ 32) (h : V + A % 256 ^ (32 - i) * B = A * B) :
    V + A % 256 ^ (31 - i) * B + byteN A (31 - i) * 256 ^ (31 - i) * (B % 256 ^ (32 - 0)) = A * B := by
  rw [← h, Nat.sub_zero, Nat.mod_eq_of_lt hB, show 32 - i = (31 - i) + 1 by omega, mod_next A (31 - i), Nat.add_mul]
  have : byteN A (31 - i) * 256 ^ (31 - i) * B = 256 ^ (31 - i) * byteN A (31 - i) * B := by ac_rfl
  omega
theorem mul_next (A B i V : Nat) (hi : i < 32) (h : V + A % 256 ^ (31 - i) * B + byteN A (31 - i) * 256 ^ (31 - i) * (B % 256 ^ (32 - 32)) = A * B) : V + A % 256 ^ (32 - (i + 1)) * B = A * B := by
  rw [Nat.sub_self, Nat.pow_zero, Nat.mod_one, Nat.mul_zero, Nat.add_zero] at h
  rw [show 32 - (i + 1) = 31 - i by omega]
  exact h
theorem run_make64i (w : World) : (Instr.makeSlice 64 (.int .i64 64) (.int .i64 64)).run Try.prog w = .ok (.slice (some ⟨w.heap.size, 0, none⟩) 64 64) (w.alloc (.cells (madeCells #[.int .i64 0] 64) 3)) := by kernel_rfl
theorem run_make64 (w : World) : (Instr.makeSlice 22 (.int .i64 64) (.int .i64 64)).run Try.prog w = .ok (.slice (some ⟨w.heap.size, 0, none⟩) 64 64) (w.alloc (.cells (madeCells #[.int .u8 0] 64) 5)) := by kernel_rfl
/-- The row of the products' sums. -/
def cF (f : Nat → Nat) : Nat → Value := fun m => .int .i64 ((f (63 - m) : Nat) : Int)
theorem bump_le {f : Nat → Nat} {n D m d : Nat} (h : ∀ s, f s ≤ n * D) (hd : d ≤ D) (s : Nat) : bump f m d s ≤ (n + 1) * D := by
  have h1 := h s
  rw [Nat.succ_mul]
  unfold bump
  generalize n * D = z at *
  split <;> omega
set_option maxHeartbeats 4000000 in
theorem refScMul_any (A B : Nat) (w : World) (hA : A < ordL) (hB : B < ordL) : Calls Try.prog 17 #[.agg (arrOf 32 (bF 32 A)), .agg (arrOf 32 (bF 32 B))] w fun e w' => e = .returned (.agg (arrOf 32 (bF 32 (A * B % ordL)))) ∧ Below w.heap.size w w' := by
  obtain ⟨w4, hw4⟩ : ∃ w4, w4 = (((w.alloc (.cells (arrOf 32 (bF 32 A)) 30)).alloc (.cells (arrOf 32 (bF 32 B)) 30)).alloc (.cells (arrOf 32 fun _ => .int .u8 0) 30)).alloc (.cells (madeCells #[.int .i64 0] 64) 3) := ⟨_, rfl⟩
  have hrA : w4.rowIs w.heap.size 30 32 (bF 32 A) := by rw [hw4]; exact (((rowIs_arr w 32 (bF 32 A) _).alloc _).alloc _).alloc _
  have hrB : w4.rowIs (w.heap.size + 1) 30 32 (bF 32 B) := by
    rw [hw4]
    have h := rowIs_arr (w.alloc (.cells (arrOf 32 (bF 32 A)) 30)) 32 (bF 32 B) 30
    rw [World.size_alloc] at h
    exact (h.alloc _).alloc _
  have hrR : w4.rowIs (w.heap.size + 1 + 1) 30 32 (fun _ => .int .u8 0) := by
    rw [hw4]
    have h := rowIs_arr ((w.alloc (.cells (arrOf 32 (bF 32 A)) 30)).alloc (.cells (arrOf 32 (bF 32 B)) 30)) 32 (fun _ => .int .u8 0) 30
    rw [World.size_alloc, World.size_alloc] at h
    exact h.alloc _
  have hrC : w4.rowIs (w.heap.size + 1 + 1 + 1) 3 64 (cF fun _ => 0) := by
    rw [hw4]
    have h := World.rowIs_made (((w.alloc (.cells (arrOf 32 (bF 32 A)) 30)).alloc (.cells (arrOf 32 (bF 32 B)) 30)).alloc (.cells (arrOf 32 fun _ => .int .u8 0) 30)) (.int .i64 0) 64 3
    rw [World.size_alloc, World.size_alloc, World.size_alloc] at h
    exact h.congr fun i _ => rfl
  have hbel : Below w.heap.size w w4 := by
    rw [hw4]
    exact ((((Below.refl _ _).alloc (Nat.le_refl _) _).alloc (by simp) _).alloc (by simp; omega) _).alloc (by simp; omega) _
  have hmk := run_make64i
  have hA32 : A < 256 ^ 32 := Nat.lt_trans hA ordL_lt
  have hB32 : B < 256 ^ 32 := Nat.lt_trans hB ordL_lt
  have hAB : A * B < 256 ^ 64 := by
    rw [show (256 : Nat) ^ 64 = 256 ^ 32 * 256 ^ 32 by rw [← Nat.pow_add]]
    exact Nat.mul_lt_mul'' hA32 hB32
  have HB32 := Lib.hid hB32
  have hst : valB (fun _ => 0) 64 + A % 256 ^ (32 - 0) * B = A * B := by rw [valB_zero, Nat.sub_zero, Nat.mod_eq_of_lt hA32, Nat.zero_add]
  obtain ⟨V, hV⟩ := nat_var (A * B)
  have HV := Lib.hid hV
  have HM := Lib.hid fun v w (h : Bs w v (beN V 64)) => refMod_any v (beN V 64) w h (by rw [beN_length]; omega)
  rw [← hV] at hAB ⊢
  rw [beN_length, beN_exp, Nat.mod_eq_of_lt hAB] at HM
  rw [← hV] at hst
  clear hA hB hA32 hB32 hAB hV
  go_enter Try.func17, Try.ntmps17
  go_wp2_with (refine wpList_alloc_arr rfl 30 rfl (arrOf 32 fun _ => .int .u8 0) zeroSc ?_)
  rw [← hw4]
  clear hw4 hmk
  generalize hg0 : w.heap.size = g0 at *
  generalize hg1 : g0 + 1 = g1 at *
  generalize hg2 : g1 + 1 = g2 at *
  generalize hg3 : g2 + 1 = g3 at *
  have n03 : g0 ≠ g3 := by omega
  have n13 : g1 ≠ g3 := by omega
  have n23 : g2 ≠ g3 := by omega
  have l2 : g0 ≤ g2 := by omega
  have l3 : g0 ≤ g3 := by omega
  have HG := Lib.hid hg0
  have HGS : Hid (∀ wq : World, Below g0 w wq → g0 ≤ wq.heap.size) := Lib.hid fun wq h => by rw [← HG.out]; exact h.size
  clear hg0 hg1 hg2 hg3
  go_loopw [6] (fun ii wr => ∃ i : Nat, ∃ f : Nat → Nat, i ≤ 32 ∧ ii = .int .i64 (i : Int) ∧ Hid (valB f 64 + A % 256 ^ (32 - i) * B = V) ∧ Hid (∀ s, f s ≤ 32 * i * 65025) ∧ wr.rowIs g3 3 64 (cF f) ∧ wr.rowIs g0 30 32 (bF 32 A) ∧ wr.rowIs g1 30 32 (bF 32 B) ∧ wr.rowIs g2 30 32 (fun _ => .int .u8 0) ∧ Below g0 w wr) (fun ii _ => 32 - (intOf ii).toNat)
  case atStart => exact ⟨0, _, Nat.zero_le _, rfl, Lib.hid hst, Lib.hid fun _ => Nat.zero_le _, hrC, hrA, hrB, hrR, hbel⟩
  case round =>
    clear hrC hrA hrB hrR hbel hst
    obtain ⟨i, f, hi, rfl, HI, HF, hrC, hrA, hrB, hrR, hbel⟩ := hrel
    by_cases hi32 : i < 32
    · have hiI : 0 ≤ (i : Int) ∧ (i : Int) < 32 := by omega
      have hst := mul_row A B i (valB f 64) hi32 HB32.out (by rw [HI.out, HV.out])
      have HST : Hid (valB f 64 + A % 256 ^ (31 - i) * B + byteN A (31 - i) * 256 ^ (31 - i) * (B % 256 ^ (32 - 0)) = A * B) := Lib.hid hst
      clear hst HI
      go_wp2
      go_loopw [7] (fun kk wq => ∃ k : Nat, ∃ f : Nat → Nat, k ≤ 32 ∧ kk = .int .i64 (k : Int) ∧ Hid (valB f 64 + A % 256 ^ (31 - i) * B + byteN A (31 - i) * 256 ^ (31 - i) * (B % 256 ^ (32 - k)) = A * B) ∧ Hid (∀ s, f s ≤ (32 * i + k) * 65025) ∧ wq.rowIs g3 3 64 (cF f) ∧ wq.rowIs g0 30 32 (bF 32 A) ∧ wq.rowIs g1 30 32 (bF 32 B) ∧ wq.rowIs g2 30 32 (fun _ => .int .u8 0) ∧ Below g0 w wq) (fun kk _ => 32 - (intOf kk).toNat)
      case atStart => exact ⟨0, f, Nat.zero_le _, rfl, HST, HF, hrC, hrA, hrB, hrR, hbel⟩
      case round =>
        clear hrC hrA hrB hrR hbel HST HF
        obtain ⟨k, f, hk, rfl, HI, HF, hrC, hrA, hrB, hrR, hbel⟩ := hrel
        by_cases hk32 : k < 32
        · have hkI : 0 ≤ (k : Int) ∧ (k : Int) < 32 := by omega
          have hcA := hrA.cell (i := i) (by omega)
          have hcB := hrB.cell (i := k) (by omega)
          unfold bF at hcA hcB
          rw [show 32 - 1 - i = 31 - i by omega] at hcA
          rw [show 32 - 1 - k = 31 - k by omega] at hcB
          obtain ⟨m, hm⟩ := nat_var (i + k + 1)
          obtain ⟨ik, hik⟩ := nat_var (i + k)
          have hcC := hrC.cell (i := m) (by omega)
          unfold cF at hcC
          have hfr := hrC.frozen m
          have hms := mul_step A B i k (valB f 64) hi32 hk32 HI.out
          have hvb := valB_bump f (62 - i - k) (byteN A (31 - i) * byteN B (31 - k)) 64 (by omega)
          rw [← hvb] at hms
          have HMS := Lib.hid hms
          obtain ⟨a, ha⟩ := nat_var (byteN A (31 - i))
          have hal : a < 256 := by rw [ha]; exact byteN_lt A _
          obtain ⟨b, hb⟩ := nat_var (byteN B (31 - k))
          have hbl : b < 256 := by rw [hb]; exact byteN_lt B _
          obtain ⟨ab, hab⟩ := nat_var (a * b)
          have habl : ab ≤ 65025 := by rw [hab]; exact Nat.le_trans (Nat.mul_le_mul (show a ≤ 255 by omega) (show b ≤ 255 by omega)) (by decide)
          have HAB : Hid (ab = byteN A (31 - i) * byteN B (31 - k)) := Lib.hid (by rw [hab, ha, hb])
          rw [← ha] at hcA
          rw [← hb] at hcB
          obtain ⟨fs, hfs⟩ := nat_var (f (63 - m))
          have hfl : fs ≤ (32 * i + k) * 65025 := by rw [hfs]; exact HF.out _
          rw [← hfs] at hcC
          obtain ⟨nf, hnf⟩ := nat_var (fs + ab)
          have hwa : IntKind.i64.wrap (a : Int) = (a : Int) := IntWalk.i64_in _ (by omega)
          have hwb : IntKind.i64.wrap (b : Int) = (b : Int) := IntWalk.i64_in _ (by omega)
          have hwab : IntKind.i64.wrap ((a : Int) * (b : Int)) = (ab : Int) := by rw [← Int.natCast_mul, ← hab]; exact IntWalk.i64_in _ (by omega)
          have hwf : IntKind.i64.wrap ((fs : Int) + (ab : Int)) = (nf : Int) := by rw [IntWalk.i64_in _ (by omega)]; omega
          have hwik : IntKind.i64.wrap ((i : Int) + (k : Int)) = (ik : Int) := by rw [IntWalk.i64_in _ (by omega)]; omega
          have hwm : IntKind.i64.wrap ((ik : Int) + 1) = (m : Int) := by rw [IntWalk.i64_in _ (by omega)]; omega
          have hmI : 0 ≤ (m : Int) ∧ (m : Int) < 64 := by omega
          have HF2 : Hid (∀ s, bump f (62 - i - k) (byteN A (31 - i) * byteN B (31 - k)) s ≤ (32 * i + (k + 1)) * 65025) := Lib.hid fun s => by
            rw [← HAB.out]
            exact bump_le HF.out habl s
          have hset : (wr.drew.setCell ⟨g3, m, none⟩ (.int .i64 (nf : Int))).rowIs g3 3 64 (cF (bump f (62 - i - k) (byteN A (31 - i) * byteN B (31 - k)))) := (hrC.drew.set m _).congr fun q hq => by
            show (if q = m then _ else _) = _
            unfold cF bump
            by_cases e : q = m
            · rw [if_pos e, if_pos (by omega), ← HAB.out, hnf, hfs, e]
            · rw [if_neg e, if_neg (by omega)]
          have kA := gb_rowIs hrA.drew (grownBy_set _ g3 m (.int .i64 (nf : Int))) n03
          have kB := gb_rowIs hrB.drew (grownBy_set _ g3 m (.int .i64 (nf : Int))) n13
          have kR := gb_rowIs hrR.drew (grownBy_set _ g3 m (.int .i64 (nf : Int))) n23
          have kb := hbel.drew.setCell (p := ⟨g3, m, none⟩) l3 (.int .i64 (nf : Int))
          clear hm hik hms hvb ha hal hb hbl hab habl hfs hfl hnf HI HF hrC hrA hrB hrR hbel HAB
          go_wp2
          go_region
          go_wp2
          go_roundw
          case rel => exact ⟨k + 1, _, by omega, by go_num, HMS, HF2, hset, kA, kB, kR, kb⟩
          case measure => (simp [intOf]; try omega)
        · obtain rfl : k = 32 := by omega
          have hn := mul_next A B i (valB f 64) hi32 HI.out
          have HN : Hid (valB f 64 + A % 256 ^ (32 - (i + 1)) * B = V) := Lib.hid (by rw [hn, HV.out])
          have HF2 : Hid (∀ s, f s ≤ 32 * (i + 1) * 65025) := Lib.hid fun s => by have := HF.out s; omega
          clear hn HI HF
          go_wp2
          go_roundw
          case rel => exact ⟨i + 1, f, by omega, by go_num, HN, HF2, hrC, hrA, hrB, hrR, hbel⟩
          case measure => (simp [intOf]; try omega)
    · obtain rfl : i = 32 := by omega
      have HE : Hid (valB f 64 = V) := Lib.hid (by have h := HI.out; rwa [Nat.sub_self, Nat.pow_zero, Nat.mod_one, Nat.zero_mul, Nat.add_zero] at h)
      have HF2 : Hid (∀ s, f s ≤ 66585600) := Lib.hid fun s => by have := HF.out s; omega
      clear HI HF
      rw [show ((32 : Nat) : Int) = 32 from rfl]
      have hmk := run_make64 wr
      have kC := hrC.alloc (.cells (madeCells #[.int .u8 0] 64) 5)
      have kR := hrR.alloc (.cells (madeCells #[.int .u8 0] 64) 5)
      have kO := (World.rowIs_made wr (.int .u8 0) 64 5).congr (g := fun i => if 63 - i < 0 then bF 64 V i else .int .u8 0) fun i _ => by rw [if_neg (Nat.not_lt_zero _)]
      have kb := hbel.alloc (HGS.out _ hbel) (.cells (madeCells #[.int .u8 0] 64) 5)
      have hlC := hrC.lt
      have hlR := hrR.lt
      have hge := HGS.out _ hbel
      clear hrC hrA hrB hrR hbel
      go_wp2
      generalize hwa : wr.alloc (.cells (madeCells #[.int .u8 0] 64) 5) = wa at *
      generalize hgo : wr.heap.size = go at *
      have nCO : g3 ≠ go := by omega
      have nRO : g2 ≠ go := by omega
      have lO : g0 ≤ go := by omega
      clear hwa hgo hlC hlR hge hmk
      go_loopw [9, 10] (fun cc jj wq => ∃ s c : Nat, s ≤ 64 ∧ Hid (c = cyV f s) ∧ Hid (c ≤ 66585600) ∧ cc = .int .i64 (c : Int) ∧ jj = .int .i64 (63 - (s : Int)) ∧ wq.rowIs go 5 64 (fun i => if 63 - i < s then bF 64 V i else .int .u8 0) ∧ wq.rowIs g3 3 64 (cF f) ∧ wq.rowIs g2 30 32 (fun _ => .int .u8 0) ∧ Below g0 w wq) (fun _ jj _ => ((intOf jj) + 1).toNat)
      case atStart => exact ⟨0, 0, Nat.zero_le _, Lib.hid (cyV_zero f).symm, Lib.hid (Nat.zero_le _), rfl, rfl, kO, kC, kR, kb⟩
      case round =>
        clear kO kC kR kb
        obtain ⟨s, c, hs, HC, HCL, rfl, rfl, hO, hC, hR, hb⟩ := hrel
        by_cases hs64 : s < 64
        · obtain ⟨j, hj⟩ := nat_var (63 - s)
          rw [show 63 - (s : Int) = (j : Int) by omega]
          have HJ := Lib.hid hj
          have hjI : 0 ≤ (j : Int) ∧ (j : Int) < 64 := by omega
          have hcC := hC.cell (i := j) (by omega)
          unfold cF at hcC
          rw [show 63 - j = s by omega] at hcC
          have hcO := hO.cell (i := j) (by omega)
          rw [if_neg (by omega)] at hcO
          have hfr := hO.frozen j
          have hst := cyV_step f 64 s hs64
          rw [HE.out, ← HC.out] at hst
          have hfl := HF2.out s
          have hcl := HCL.out
          obtain ⟨fs, hfs⟩ := nat_var (f s)
          rw [← hfs] at hcC hst hfl
          obtain ⟨v, hv⟩ := nat_var (fs + c)
          rw [← hv] at hst
          obtain ⟨z, hz⟩ := nat_var (v % 256)
          obtain ⟨q, hq⟩ := nat_var (v / 256)
          have hz2 : z = byteN V s := by rw [hst.1, hz]
          have HQ2 : Hid (q = cyV f (s + 1)) := Lib.hid (by rw [hst.2, hq])
          have HQL : Hid (q ≤ 66585600) := Lib.hid (by omega)
          have hwv : IntKind.i64.wrap ((fs : Int) + (c : Int)) = (v : Int) := by rw [IntWalk.i64_in _ (by omega)]; omega
          have hwz : IntKind.u8.wrap (v : Int) = (z : Int) := by rw [IntKind.wrap_u8]; omega
          have hwj : IntKind.i64.wrap ((j : Int) - 1) = (j : Int) - 1 := IntWalk.i64_in _ (by omega)
          have hset : (wr.setCell ⟨go, j, none⟩ (.int .u8 (z : Int))).rowIs go 5 64 (fun i => if 63 - i < s + 1 then bF 64 V i else .int .u8 0) := (hO.set j _).congr fun i hi => by
            show (if i = j then _ else _) = _
            by_cases e : i = j
            · rw [if_pos e, if_pos (by omega)]
              unfold bF
              rw [show 64 - 1 - i = s by omega, ← hz2]
            · rw [if_neg e]
              by_cases e2 : 63 - i < s
              · rw [if_pos e2, if_pos (by omega)]
              · rw [if_neg e2, if_neg (by omega)]
          have kC := gb_rowIs hC (grownBy_set _ go j (.int .u8 (z : Int))) nCO
          have kR := gb_rowIs hR (grownBy_set _ go j (.int .u8 (z : Int))) nRO
          have kb := hb.setCell (p := ⟨go, j, none⟩) lO (.int .u8 (z : Int))
          have HQ := Lib.hid hq
          have HVL : Hid (v < 1000000000) := Lib.hid (by omega)
          clear hj hfs hst hfl hcl hv hz hq hz2 hO hC hR hb
          go_wp2_with (refine wpList_shrI8 rfl (.tmp 60) (.const (.int .u64 8)) rfl rfl rfl HQ.out HVL.out ?_)
          go_roundw
          case rel => exact ⟨s + 1, q, by omega, HQ2, HQL, rfl, by have := HJ.out; go_num, hset, kC, kR, kb⟩
          case measure => (have := HJ.out; simp [intOf]; try omega)
        · obtain rfl : s = 64 := by omega
          have hBs := bF_bs (hO.congr (g := bF 64 V) fun i hi => by rw [if_pos (by omega)]) (by omega)
          clear hO hC
          go_wp2_with (first
            | (go_at_call 28; refine (HM.out _ _ hBs).mono ?_; rintro e w5 ⟨rfl, hb5⟩
               have kR5 := hR.of_block (hb5.block _ hR.lt)
               have kb5 := hb.trans (hb5.mono (HGS.out _ hb))
               clear hR hb hb5 hBs)
            | (refine wpList_store_arr rfl 30 (.tmp 4) (.tmp 63) rfl 32 arrSc kR5 rfl rfl (by omega) (fun _ _ => rfl) ?_; intro wd hrd hgd hsd))
          refine ret_cell_arr rfl arrSc hrd rfl (by omega) rfl ⟨?_, by rw [HG.out]; exact kb5.grown hgd (HGS.out _ kb5) (by intro k hk; cases hk; exact l2)⟩
          refine congrArg (fun x => Ending.returned (.agg x)) (arrOf_congr fun i hi => ?_)
          unfold putN
          rw [if_pos (by omega), Nat.zero_add, Nat.sub_zero]
end Go.Proofs.Ytncdlaidmiokiaa
