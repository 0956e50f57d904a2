/- Texts joined: what they are for stands ahead of each. -/
import Derived.Test.YtflblaccfiigfabDoorMM2
import Derived.ProofKit
import Derived.OpenShut
import Derived.ChangeOld
import Derived.Deep.Matrix
import Derived.Test.YtflblaccfiigfabDoorRows
import Derived.Lib.LaidTab
import Derived.LaidMore
import Derived.MakeChecks
set_option linter.unusedSimpArgs false
set_option linter.unusedVariables false

/- Rows of three polynomials: noises, line, column, through, written, read. -/
namespace Go.Proofs.YtflblaccfiigfabDoor
open Go.RowKit Go.Deep
set_option linter.unusedSimpArgs false
set_option linter.unusedVariables false

theorem u8_of (j : Nat) (h : j < 256) : ∃ J : UInt8, J = UInt8.ofNat j ∧ J.toNat = j := ⟨_, rfl, UInt8.toNat_ofNat_of_lt' h⟩
theorem u8_wrap (J : UInt8) : IntKind.u8.wrap ((J.toNat : Nat) : Int) = ((J.toNat : Nat) : Int) := by
  have := UInt8.toNat_lt J
  rw [IntKind.wrap_u8]
  omega
def noiR (l : List UInt8) (m i : Nat) : Nat → Nat := noiseN (spongeL 136 31 [l, [UInt8.ofNat (m + i)]].flatten 128)
theorem noiR_lt (l : List UInt8) (m i j : Nat) : noiR l m i j < 3329 := noiseN_lt _ j
def linR (l : List UInt8) (m j : Nat) : Nat → Nat := puN [l, [UInt8.ofNat j, UInt8.ofNat m]].flatten
def colR (l : List UInt8) (m j : Nat) : Nat → Nat := puN [l, [UInt8.ofNat m, UInt8.ofNat j]].flatten
theorem linR_lt (l : List UInt8) (m j i : Nat) : linR l m j i < 3329 := puN_lt _ i
theorem colR_lt (l : List UInt8) (m j i : Nat) : colR l m j i < 3329 := puN_lt _ i
set_option maxHeartbeats 4000000 in
set_option maxRecDepth 20000 in
theorem noises_any (v0 : Value) (l0 : List UInt8) (m : Nat) (w : World) (hL : Laid3 w) (h0 : Bs w v0 l0) (hm : m ≤ 100) : Calls Tryd.prog 14 #[v0, .int .i64 (m : Int)] w fun e w' => e = .returned (.agg (arrOf 768 (p3F (noiR l0 m)))) ∧ Below w.heap.size w w' := by
  have Bw0 := Below.refl w.heap.size w
  have HGS : Hid (∀ wq : World, Below w.heap.size w wq → w.heap.size ≤ wq.heap.size) := Lib.hid fun wq h => h.size
  have f_s0 := h0
  have HF_s0 := Lib.hid h0
  have HT := Lib.hid hL
  clear h0 hL
  have HM := Lib.hid hm
  clear hm
  go_enter Tryd.func14, Tryd.ntmps14
  go_wp2_with (first
    | (have hgo := Bw0; clear hgo
       refine wpList_alloc_row rfl 36 rfl 768 (p3F fun _ _ => 0) zeroRow ?_
       intro b_t4 w1 lk r_t4 kk
       have l_t4 := zrl HGS Bw0 lk
       have a_s0_t4 := Bs.away f_s0 lk
       replace f_s0 := zfb f_s0 kk
       have Bw1 := zbt HGS Bw0 kk
       clear Bw0 kk lk)
    | (have hgo := Bw1; clear hgo
       refine wpList_alloc_row rfl 36 rfl 768 (p3F fun _ _ => 0) zeroRow ?_
       intro b_t5 w2 lk r_t5 kk
       have n_t4_t5 := zrn r_t4 lk
       have l_t5 := zrl HGS Bw1 lk
       have a_s0_t5 := Bs.away f_s0 lk
       replace r_t4 := zrb r_t4 kk
       replace f_s0 := zfb f_s0 kk
       have Bw2 := zbt HGS Bw1 kk
       clear Bw1 kk lk))
  go_loopw [7] (fun iv wr => ∃ k : Nat, k ≤ 3 ∧ iv = .int .i64 (k : Int) ∧ wr.rowIs b_t5 36 768 (p3F (upR (noiR l0 m) (fun _ _ => 0) k)) ∧ wr.rowIs b_t4 36 768 (p3F fun _ _ => 0) ∧ Below w.heap.size w wr) (fun iv _ => 3 - (intOf iv).toNat)
  case atStart => exact ⟨0, by decide, rfl, by rw [upR_zero]; exact r_t5, r_t4, Bw2⟩
  case round =>
    clear r_t5  r_t4 Bw2
    clear f_s0
    obtain ⟨k, hk, rfl, r_t5, r_t4, Bw0⟩ := hrel
    by_cases hlt : k < 3
    · have hkI : 0 ≤ (k : Int) ∧ (k : Int) < 3 := by omega
      have HK := Lib.hid hlt
      have hm := HM.out
      obtain ⟨J, hJ, hJn⟩ := u8_of (m + k) (by omega)
      have hw1 : IntKind.i64.wrap ((m : Int) + (k : Int)) = ((J.toNat : Nat) : Int) := by rw [IntWalk.i64_in _ (by omega), hJn]; omega
      have hw2 := u8_wrap J
      have HNZ : Hid (∀ v W, Laid3 W → Bs W v l0 → Calls Tryd.prog 28 #[v, .int .u8 ((J.toNat : Nat) : Int)] W fun e w' => e = .returned (.agg (arrOf 256 (pyF (noiR l0 m k)))) ∧ Below W.heap.size W w') := Lib.hid fun v W h1 h2 => by
        have h3 := rNoise_any v l0 J W h1 h2
        rw [hJ] at h3 ⊢
        exact h3
      clear hJ hJn hm
      clear hk hlt
      have f_s0 := HF_s0.out.below Bw0 (Nat.le_refl _)
      go_wp2_with (first
        | (have hgo := Bw0; clear hgo
           go_at_call 28
           refine (HNZ.out _ _ (HT.out.below Bw0 HT.out.size) f_s0).mono ?_
           rintro e w309 ⟨rfl, kk⟩
           replace r_t5 := zrb r_t5 kk
           replace r_t4 := zrb r_t4 kk
           replace f_s0 := zfb f_s0 kk
           have Bw1 := zbt HGS Bw0 kk
           clear Bw0 kk)
        | (have hgo := Bw1; clear hgo
           refine wpList_store_as rfl 34 (.tmp 17) (.tmp 16) rfl 256 (p3F (upR (noiR l0 m) (fun _ _ => 0) (k + 1))) arrP r_t5 rfl rfl (by have := HK.out; omega) (fun _ _ => rfl) (p3_put (rfl)) ?_
           intro w311 q gk
           replace r_t4 := gb_rowIs r_t4 gk n_t4_t5
           replace r_t5 := q
           have Bw2 := zbg HGS Bw1 gk l_t5
           replace f_s0 := gb_bs f_s0 gk a_s0_t5
           clear Bw1 gk q))
      go_roundw
      case rel => exact ⟨k + 1, HK.out, by have := HK.out; go_num, r_t5, r_t4, Bw2⟩
      case measure => (have := HK.out; simp [intOf]; try omega)
    · obtain rfl : k = 3 := by omega
      replace r_t5 := World.rowIs.congr r_t5 (p3_done (noiR l0 m) (fun _ _ => 0))
      go_wp2_with (first
        | (have hgo := Bw0; clear hgo
           refine wpList_load_as rfl 36 (.tmp 5) rfl 768 (p3F (noiR l0 m)) arrRow r_t5 rfl (by omega) (fun i hi => by rw [Nat.zero_add]) ?_
           have Bw1 := Bw0
           clear Bw0)
        | (have hgo := Bw1; clear hgo
           refine wpList_store_as rfl 36 (.tmp 4) (.tmp 19) rfl 768 (p3F (noiR l0 m)) arrRow r_t4 rfl rfl (by omega) (fun _ _ => rfl) (fun i hi => putN_whole hi) ?_
           intro w602 q gk
           replace r_t5 := gb_rowIs r_t5 gk (Ne.symm n_t4_t5)
           replace r_t4 := q
           have Bw2 := zbg HGS Bw1 gk l_t4
           clear Bw1 gk q))
      exact ret_cell_as _ rfl arrRow r_t4 rfl (by omega) (fun _ _ => rfl) rfl ⟨rfl, Bw2⟩
set_option maxHeartbeats 4000000 in
set_option maxRecDepth 20000 in
theorem mline_any (v0 : Value) (l0 : List UInt8) (m : Nat) (w : World) (hL : Laid3 w) (h0 : Bs w v0 l0) (hm : m < 3) : Calls Tryd.prog 18 #[v0, .int .i64 (m : Int)] w fun e w' => e = .returned (.agg (arrOf 768 (p3F (linR l0 m)))) ∧ Below w.heap.size w w' := by
  have Bw0 := Below.refl w.heap.size w
  have HGS : Hid (∀ wq : World, Below w.heap.size w wq → w.heap.size ≤ wq.heap.size) := Lib.hid fun wq h => h.size
  have f_s0 := h0
  have HF_s0 := Lib.hid h0
  have HT := Lib.hid hL
  clear h0 hL
  have HM := Lib.hid hm
  clear hm
  go_enter Tryd.func18, Tryd.ntmps18
  go_wp2_with (first
    | (have hgo := Bw0; clear hgo
       refine wpList_alloc_row rfl 36 rfl 768 (p3F fun _ _ => 0) zeroRow ?_
       intro b_t4 w1 lk r_t4 kk
       have l_t4 := zrl HGS Bw0 lk
       have a_s0_t4 := Bs.away f_s0 lk
       replace f_s0 := zfb f_s0 kk
       have Bw1 := zbt HGS Bw0 kk
       clear Bw0 kk lk)
    | (have hgo := Bw1; clear hgo
       refine wpList_alloc_row rfl 36 rfl 768 (p3F fun _ _ => 0) zeroRow ?_
       intro b_t5 w2 lk r_t5 kk
       have n_t4_t5 := zrn r_t4 lk
       have l_t5 := zrl HGS Bw1 lk
       have a_s0_t5 := Bs.away f_s0 lk
       replace r_t4 := zrb r_t4 kk
       replace f_s0 := zfb f_s0 kk
       have Bw2 := zbt HGS Bw1 kk
       clear Bw1 kk lk))
  go_loopw [7] (fun iv wr => ∃ k : Nat, k ≤ 3 ∧ iv = .int .i64 (k : Int) ∧ wr.rowIs b_t5 36 768 (p3F (upR (linR l0 m) (fun _ _ => 0) k)) ∧ wr.rowIs b_t4 36 768 (p3F fun _ _ => 0) ∧ Below w.heap.size w wr) (fun iv _ => 3 - (intOf iv).toNat)
  case atStart => exact ⟨0, by decide, rfl, by rw [upR_zero]; exact r_t5, r_t4, Bw2⟩
  case round =>
    clear r_t5  r_t4 Bw2
    clear f_s0
    obtain ⟨k, hk, rfl, r_t5, r_t4, Bw0⟩ := hrel
    by_cases hlt : k < 3
    · have hkI : 0 ≤ (k : Int) ∧ (k : Int) < 3 := by omega
      have HK := Lib.hid hlt
      have hm := HM.out
      obtain ⟨J, hJ, hJn⟩ := u8_of k (by omega)
      obtain ⟨M, hM, hMn⟩ := u8_of m (by omega)
      have hw1 : IntKind.u8.wrap (k : Int) = ((J.toNat : Nat) : Int) := by rw [hJn, IntKind.wrap_u8]; omega
      have hw2 : IntKind.u8.wrap (m : Int) = ((M.toNat : Nat) : Int) := by rw [hMn, IntKind.wrap_u8]; omega
      have HNZ : Hid (∀ v W, Laid3 W → Bs W v l0 → Calls Tryd.prog 36 #[v, .int .u8 ((J.toNat : Nat) : Int), .int .u8 ((M.toNat : Nat) : Int)] W fun e w' => e = .returned (.agg (arrOf 256 (pyF (linR l0 m k)))) ∧ Below W.heap.size W w') := Lib.hid fun v W h1 h2 => by
        have h3 := pUniform_any v l0 J M W h1 h2
        rw [hJ, hM] at h3 ⊢
        exact h3
      clear hJ hJn hM hMn hm
      clear hk hlt
      have f_s0 := HF_s0.out.below Bw0 (Nat.le_refl _)
      go_wp2_with (first
        | (have hgo := Bw0; clear hgo
           go_at_call 36
           refine (HNZ.out _ _ (HT.out.below Bw0 HT.out.size) f_s0).mono ?_
           rintro e w309 ⟨rfl, kk⟩
           replace r_t5 := zrb r_t5 kk
           replace r_t4 := zrb r_t4 kk
           replace f_s0 := zfb f_s0 kk
           have Bw1 := zbt HGS Bw0 kk
           clear Bw0 kk)
        | (have hgo := Bw1; clear hgo
           refine wpList_store_as rfl 34 (.tmp 17) (.tmp 16) rfl 256 (p3F (upR (linR l0 m) (fun _ _ => 0) (k + 1))) arrP r_t5 rfl rfl (by have := HK.out; omega) (fun _ _ => rfl) (p3_put (rfl)) ?_
           intro w311 q gk
           replace r_t4 := gb_rowIs r_t4 gk n_t4_t5
           replace r_t5 := q
           have Bw2 := zbg HGS Bw1 gk l_t5
           replace f_s0 := gb_bs f_s0 gk a_s0_t5
           clear Bw1 gk q))
      go_roundw
      case rel => exact ⟨k + 1, HK.out, by have := HK.out; go_num, r_t5, r_t4, Bw2⟩
      case measure => (have := HK.out; simp [intOf]; try omega)
    · obtain rfl : k = 3 := by omega
      replace r_t5 := World.rowIs.congr r_t5 (p3_done (linR l0 m) (fun _ _ => 0))
      go_wp2_with (first
        | (have hgo := Bw0; clear hgo
           refine wpList_load_as rfl 36 (.tmp 5) rfl 768 (p3F (linR l0 m)) arrRow r_t5 rfl (by omega) (fun i hi => by rw [Nat.zero_add]) ?_
           have Bw1 := Bw0
           clear Bw0)
        | (have hgo := Bw1; clear hgo
           refine wpList_store_as rfl 36 (.tmp 4) (.tmp 19) rfl 768 (p3F (linR l0 m)) arrRow r_t4 rfl rfl (by omega) (fun _ _ => rfl) (fun i hi => putN_whole hi) ?_
           intro w602 q gk
           replace r_t5 := gb_rowIs r_t5 gk (Ne.symm n_t4_t5)
           replace r_t4 := q
           have Bw2 := zbg HGS Bw1 gk l_t4
           clear Bw1 gk q))
      exact ret_cell_as _ rfl arrRow r_t4 rfl (by omega) (fun _ _ => rfl) rfl ⟨rfl, Bw2⟩
set_option maxHeartbeats 4000000 in
set_option maxRecDepth 20000 in
theorem mcolumn_any (v0 : Value) (l0 : List UInt8) (m : Nat) (w : World) (hL : Laid3 w) (h0 : Bs w v0 l0) (hm : m < 3) : Calls Tryd.prog 25 #[v0, .int .i64 (m : Int)] w fun e w' => e = .returned (.agg (arrOf 768 (p3F (colR l0 m)))) ∧ Below w.heap.size w w' := by
  have Bw0 := Below.refl w.heap.size w
  have HGS : Hid (∀ wq : World, Below w.heap.size w wq → w.heap.size ≤ wq.heap.size) := Lib.hid fun wq h => h.size
  have f_s0 := h0
  have HF_s0 := Lib.hid h0
  have HT := Lib.hid hL
  clear h0 hL
  have HM := Lib.hid hm
  clear hm
  go_enter Tryd.func25, Tryd.ntmps25
  go_wp2_with (first
    | (have hgo := Bw0; clear hgo
       refine wpList_alloc_row rfl 36 rfl 768 (p3F fun _ _ => 0) zeroRow ?_
       intro b_t4 w1 lk r_t4 kk
       have l_t4 := zrl HGS Bw0 lk
       have a_s0_t4 := Bs.away f_s0 lk
       replace f_s0 := zfb f_s0 kk
       have Bw1 := zbt HGS Bw0 kk
       clear Bw0 kk lk)
    | (have hgo := Bw1; clear hgo
       refine wpList_alloc_row rfl 36 rfl 768 (p3F fun _ _ => 0) zeroRow ?_
       intro b_t5 w2 lk r_t5 kk
       have n_t4_t5 := zrn r_t4 lk
       have l_t5 := zrl HGS Bw1 lk
       have a_s0_t5 := Bs.away f_s0 lk
       replace r_t4 := zrb r_t4 kk
       replace f_s0 := zfb f_s0 kk
       have Bw2 := zbt HGS Bw1 kk
       clear Bw1 kk lk))
  go_loopw [7] (fun iv wr => ∃ k : Nat, k ≤ 3 ∧ iv = .int .i64 (k : Int) ∧ wr.rowIs b_t5 36 768 (p3F (upR (colR l0 m) (fun _ _ => 0) k)) ∧ wr.rowIs b_t4 36 768 (p3F fun _ _ => 0) ∧ Below w.heap.size w wr) (fun iv _ => 3 - (intOf iv).toNat)
  case atStart => exact ⟨0, by decide, rfl, by rw [upR_zero]; exact r_t5, r_t4, Bw2⟩
  case round =>
    clear r_t5  r_t4 Bw2
    clear f_s0
    obtain ⟨k, hk, rfl, r_t5, r_t4, Bw0⟩ := hrel
    by_cases hlt : k < 3
    · have hkI : 0 ≤ (k : Int) ∧ (k : Int) < 3 := by omega
      have HK := Lib.hid hlt
      have hm := HM.out
      obtain ⟨J, hJ, hJn⟩ := u8_of k (by omega)
      obtain ⟨M, hM, hMn⟩ := u8_of m (by omega)
      have hw1 : IntKind.u8.wrap (k : Int) = ((J.toNat : Nat) : Int) := by rw [hJn, IntKind.wrap_u8]; omega
      have hw2 : IntKind.u8.wrap (m : Int) = ((M.toNat : Nat) : Int) := by rw [hMn, IntKind.wrap_u8]; omega
      have HNZ : Hid (∀ v W, Laid3 W → Bs W v l0 → Calls Tryd.prog 36 #[v, .int .u8 ((M.toNat : Nat) : Int), .int .u8 ((J.toNat : Nat) : Int)] W fun e w' => e = .returned (.agg (arrOf 256 (pyF (colR l0 m k)))) ∧ Below W.heap.size W w') := Lib.hid fun v W h1 h2 => by
        have h3 := pUniform_any v l0 M J W h1 h2
        rw [hJ, hM] at h3 ⊢
        exact h3
      clear hJ hJn hM hMn hm
      clear hk hlt
      have f_s0 := HF_s0.out.below Bw0 (Nat.le_refl _)
      go_wp2_with (first
        | (have hgo := Bw0; clear hgo
           go_at_call 36
           refine (HNZ.out _ _ (HT.out.below Bw0 HT.out.size) f_s0).mono ?_
           rintro e w309 ⟨rfl, kk⟩
           replace r_t5 := zrb r_t5 kk
           replace r_t4 := zrb r_t4 kk
           replace f_s0 := zfb f_s0 kk
           have Bw1 := zbt HGS Bw0 kk
           clear Bw0 kk)
        | (have hgo := Bw1; clear hgo
           refine wpList_store_as rfl 34 (.tmp 17) (.tmp 16) rfl 256 (p3F (upR (colR l0 m) (fun _ _ => 0) (k + 1))) arrP r_t5 rfl rfl (by have := HK.out; omega) (fun _ _ => rfl) (p3_put (rfl)) ?_
           intro w311 q gk
           replace r_t4 := gb_rowIs r_t4 gk n_t4_t5
           replace r_t5 := q
           have Bw2 := zbg HGS Bw1 gk l_t5
           replace f_s0 := gb_bs f_s0 gk a_s0_t5
           clear Bw1 gk q))
      go_roundw
      case rel => exact ⟨k + 1, HK.out, by have := HK.out; go_num, r_t5, r_t4, Bw2⟩
      case measure => (have := HK.out; simp [intOf]; try omega)
    · obtain rfl : k = 3 := by omega
      replace r_t5 := World.rowIs.congr r_t5 (p3_done (colR l0 m) (fun _ _ => 0))
      go_wp2_with (first
        | (have hgo := Bw0; clear hgo
           refine wpList_load_as rfl 36 (.tmp 5) rfl 768 (p3F (colR l0 m)) arrRow r_t5 rfl (by omega) (fun i hi => by rw [Nat.zero_add]) ?_
           have Bw1 := Bw0
           clear Bw0)
        | (have hgo := Bw1; clear hgo
           refine wpList_store_as rfl 36 (.tmp 4) (.tmp 19) rfl 768 (p3F (colR l0 m)) arrRow r_t4 rfl rfl (by omega) (fun _ _ => rfl) (fun i hi => putN_whole hi) ?_
           intro w602 q gk
           replace r_t5 := gb_rowIs r_t5 gk (Ne.symm n_t4_t5)
           replace r_t4 := q
           have Bw2 := zbg HGS Bw1 gk l_t4
           clear Bw1 gk q))
      exact ret_cell_as _ rfl arrRow r_t4 rfl (by omega) (fun _ _ => rfl) rfl ⟨rfl, Bw2⟩
set_option maxHeartbeats 4000000 in
set_option maxRecDepth 20000 in
theorem thruLine_any (v0 : Value) (l0 : List UInt8) (g : Nat → Nat → Nat) (w : World) (hL : Laid3 w) (h0 : Bs w v0 l0) (hg : ∀ i j, g i j < 65536) : Calls Tryd.prog 17 #[.agg (arrOf 768 (p3F g)), .func (.func 18) #[v0] #[]] w fun e w' => e = .returned (.agg (arrOf 768 (p3F fun i => inN (linR l0 i) g))) ∧ Below w.heap.size w w' := by
  have Bw0 := Below.refl w.heap.size w
  have HGS : Hid (∀ wq : World, Below w.heap.size w wq → w.heap.size ≤ wq.heap.size) := Lib.hid fun wq h => h.size
  have HF_s0 := Lib.hid h0
  have HT := Lib.hid hL
  have Hg := Lib.hid hg
  clear h0 hL hg
  go_enter Tryd.func17, Tryd.ntmps17
  go_wp2_with (first
    | (have hgo := Bw0; clear hgo
       refine wpList_box_row rfl 36 (.tmp 0) rfl 768 (p3F g) rfl ?_
       intro b_t2 w1 lk r_t2 kk
       have l_t2 := zrl HGS Bw0 lk
       have Bw1 := zbt HGS Bw0 kk
       clear Bw0 kk lk)
    | (have hgo := Bw1; clear hgo
       refine wpList_alloc_row rfl 36 rfl 768 (p3F fun _ _ => 0) zeroRow ?_
       intro b_t4 w2 lk r_t4 kk
       have n_t2_t4 := zrn r_t2 lk
       have l_t4 := zrl HGS Bw1 lk
       replace r_t2 := zrb r_t2 kk
       have Bw2 := zbt HGS Bw1 kk
       clear Bw1 kk lk)
    | (have hgo := Bw2; clear hgo
       refine wpList_alloc_row rfl 36 rfl 768 (p3F fun _ _ => 0) zeroRow ?_
       intro b_t5 w3 lk r_t5 kk
       have n_t2_t5 := zrn r_t2 lk
       have n_t4_t5 := zrn r_t4 lk
       have l_t5 := zrl HGS Bw2 lk
       replace r_t2 := zrb r_t2 kk
       replace r_t4 := zrb r_t4 kk
       have Bw3 := zbt HGS Bw2 kk
       clear Bw2 kk lk))
  go_loopw [7] (fun iv wr => ∃ k : Nat, k ≤ 3 ∧ iv = .int .i64 (k : Int) ∧ wr.rowIs b_t5 36 768 (p3F (upR (fun i => inN (linR l0 i) g) (fun _ _ => 0) k)) ∧ wr.rowIs b_t2 36 768 (p3F g) ∧ wr.rowIs b_t4 36 768 (p3F fun _ _ => 0) ∧ Below w.heap.size w wr) (fun iv _ => 3 - (intOf iv).toNat)
  case atStart => exact ⟨0, by decide, rfl, by rw [upR_zero]; exact r_t5, r_t2, r_t4, Bw3⟩
  case round =>
    clear r_t5  r_t2 r_t4 Bw3
    obtain ⟨k, hk, rfl, r_t5, r_t2, r_t4, Bw0⟩ := hrel
    by_cases hlt : k < 3
    · have hkI : 0 ≤ (k : Int) ∧ (k : Int) < 3 := by omega
      have HK := Lib.hid hlt
      clear hk hlt
      go_wp2
      have Bw1 := Bw0.drew
      replace r_t5 := World.rowIs.drew r_t5
      replace r_t2 := World.rowIs.drew r_t2
      replace r_t4 := World.rowIs.drew r_t4
      clear Bw0
      refine zpo [b_t5] (.rd 0 (.rd 1 (.rd 2 (.rd 4 .done)))) #[true, true, true, false, true, false, false, false] [3, 5, 6, 7] [some 13, some 15, some 16, none] [[], [0], [0, 1], [0, 1, 2]] [(0, []), (1, []), (2, []), (3, [1, 2]), (4, []), (5, [3, 4, 3]), (6, [0, 0, 1, 2, 3, 4, 5]), (7, [6, 5, 5, 0, 1, 2, 3, 4, 5])] 23 ?_
      refine zmv (.int .i64 (k : Int)) rfl rfl rfl rfl rfl ?_
      simp only [Act.put, zA, zB, zC]
      refine zmv (.func (.func 18) #[v0] #[]) rfl rfl rfl rfl rfl ?_
      refine zmv (.int .i64 (k : Int)) rfl rfl rfl rfl rfl ?_
      refine zld (p3F g) arrRow r_t2 (cont1 n_t2_t5) (fun i hi => by rw [Nat.zero_add]) rfl rfl rfl rfl rfl (by omega) ?_
      simp only [Act.put, zA, zB, zC]
      refine lintz_leaf ?_
      refine po_start [.val (.agg (arrOf 768 (p3F (linR l0 k)))), .val (.agg (arrOf 256 (pyF (inN (linR l0 k) g)))), .val (.pointer (some ⟨b_t5, k * 256, none⟩)), .nil] [⟨b_t5, 36, 768, (p3F (upR (fun i => inN (linR l0 i) g) (fun _ _ => 0) k)), 3, (p3F (upR (fun i => inN (linR l0 i) g) (fun _ _ => 0) (k + 1)))⟩] (fun i hi => by obtain rfl : i = 0 := by { have h9 : i < 1 := hi; omega }; exact r_t5) (fun HWF m gz wa p az hp hm hmp hcl hdn hE hJ hS hO => ?_) (fun gz wa hE hJ => ?_)
      · rcases (show p = 0 ∨ p = 1 ∨ p = 2 ∨ p = 3 by have h9 : p < 4 := hp; omega) with rfl | rfl | rfl | rfl
        · have e12 : az.eval (.tmp 12) = .int .i64 (k : Int) := hO 12 rfl
          have e11 : az.eval (.tmp 11) = .func (.func 18) #[v0] #[] := hO 11 rfl
          exact po_kvB1 HWF hJ hE (mline_any v0 l0 k _ (HT.out.below (hE.below Bw1 (HGS.out _ Bw1) (keep_all1 l_t5)) HT.out.size) (HF_s0.out.below (hE.below Bw1 (HGS.out _ Bw1) (keep_all1 l_t5)) (Nat.le_refl _)) HK.out) rfl rfl rfl rfl rfl rfl e11 (ar1 e12)
        · have e14 : az.eval (.tmp 14) = .agg (arrOf 768 (p3F g)) := hO 14 rfl
          exact po_k HWF hJ hE (inner_any (linR l0 k) g _ (fun i => lt16 (linR_lt l0 k i)) Hg.out) rfl rfl rfl rfl rfl rfl (ar2 (po_e hS hdn hJ 0 13 rfl rfl rfl rfl) e14)
        · have e5 : az.eval (.tmp 5) = .pointer (some ⟨b_t5, 0, none⟩) := hO 5 rfl
          have e10 : az.eval (.tmp 10) = .int .i64 (k : Int) := hO 10 rfl
          exact po_p (Op.indexAddr 36 (Operand.tmp 5) (Operand.tmp 10)) HWF hJ hE rfl rfl rfl rfl rfl rfl rfl (by simp only [execOp, mkOp, eval_const, e5, e10]; go_simp)
        · exact po_storePart 0 (.tmp 16) (.tmp 15) 34 36 b_t5 256 768 (k * 256) _ _ _ (by rw [hm]; exact hp) hmp hJ rfl (show 0 < 1 by decide) rfl rfl rfl rfl rfl rfl (World.rowIs.lt r_t5) (by simp) (by kernel_rfl) po_ne1 hE rfl rfl rfl rfl rfl ((po_e hS hdn hJ 2 16 rfl rfl rfl rfl)) (po_e hS hdn hJ 1 15 rfl rfl rfl rfl) arrP (fun _ _ => rfl) (by have := HK.out; omega) (p3_put (rfl))
      · rw [putO_true _ _ _ _ _ rfl]
        simp only [putA, Nat.zero_add, Nat.reduceAdd]
        rw [hJ.tt 0 rfl, hJ.tt 1 rfl, hJ.tt 2 rfl]
        simp only [Act.put, zA, zB, zC]
        refine po_end ?_
        replace r_t5 : wa.rowIs b_t5 36 768 (p3F (upR (fun i => inN (linR l0 i) g) (fun _ _ => 0) (k + 1))) := hJ.old 0 (show 0 < 1 by decide) (show 3 < 4 by decide)
        replace r_t2 := Keep.row hE r_t2 (cont1 n_t2_t5)
        replace r_t4 := Keep.row hE r_t4 (cont1 n_t4_t5)
        have Bw2 := hE.below Bw1 (HGS.out _ Bw1) (keep_all1 l_t5)
        clear Bw1 hE hJ 
        go_wp2
        go_roundw
        case rel => exact ⟨k + 1, HK.out, by have := HK.out; go_num, r_t5, r_t2, r_t4, Bw2⟩
        case measure => (have := HK.out; simp [intOf]; try omega)
    · obtain rfl : k = 3 := by omega
      replace r_t5 := World.rowIs.congr r_t5 (p3_done (fun i => inN (linR l0 i) g) (fun _ _ => 0))
      go_wp2_with (first
        | (have hgo := Bw0; clear hgo
           refine wpList_load_as rfl 36 (.tmp 5) rfl 768 (p3F (fun i => inN (linR l0 i) g)) arrRow r_t5 rfl (by omega) (fun i hi => by rw [Nat.zero_add]) ?_
           have Bw1 := Bw0
           clear Bw0)
        | (have hgo := Bw1; clear hgo
           refine wpList_store_as rfl 36 (.tmp 4) (.tmp 18) rfl 768 (p3F (fun i => inN (linR l0 i) g)) arrRow r_t4 rfl rfl (by omega) (fun _ _ => rfl) (fun i hi => putN_whole hi) ?_
           intro w602 q gk
           replace r_t5 := gb_rowIs r_t5 gk (Ne.symm n_t4_t5)
           replace r_t2 := gb_rowIs r_t2 gk n_t2_t4
           replace r_t4 := q
           have Bw2 := zbg HGS Bw1 gk l_t4
           clear Bw1 gk q))
      exact ret_cell_as _ rfl arrRow r_t4 rfl (by omega) (fun _ _ => rfl) rfl ⟨rfl, Bw2⟩
set_option maxHeartbeats 4000000 in
set_option maxRecDepth 20000 in
theorem thruCol_any (v0 : Value) (l0 : List UInt8) (g : Nat → Nat → Nat) (w : World) (hL : Laid3 w) (h0 : Bs w v0 l0) (hg : ∀ i j, g i j < 65536) : Calls Tryd.prog 17 #[.agg (arrOf 768 (p3F g)), .func (.func 25) #[v0] #[]] w fun e w' => e = .returned (.agg (arrOf 768 (p3F fun i => inN (colR l0 i) g))) ∧ Below w.heap.size w w' := by
  have Bw0 := Below.refl w.heap.size w
  have HGS : Hid (∀ wq : World, Below w.heap.size w wq → w.heap.size ≤ wq.heap.size) := Lib.hid fun wq h => h.size
  have HF_s0 := Lib.hid h0
  have HT := Lib.hid hL
  have Hg := Lib.hid hg
  clear h0 hL hg
  go_enter Tryd.func17, Tryd.ntmps17
  go_wp2_with (first
    | (have hgo := Bw0; clear hgo
       refine wpList_box_row rfl 36 (.tmp 0) rfl 768 (p3F g) rfl ?_
       intro b_t2 w1 lk r_t2 kk
       have l_t2 := zrl HGS Bw0 lk
       have Bw1 := zbt HGS Bw0 kk
       clear Bw0 kk lk)
    | (have hgo := Bw1; clear hgo
       refine wpList_alloc_row rfl 36 rfl 768 (p3F fun _ _ => 0) zeroRow ?_
       intro b_t4 w2 lk r_t4 kk
       have n_t2_t4 := zrn r_t2 lk
       have l_t4 := zrl HGS Bw1 lk
       replace r_t2 := zrb r_t2 kk
       have Bw2 := zbt HGS Bw1 kk
       clear Bw1 kk lk)
    | (have hgo := Bw2; clear hgo
       refine wpList_alloc_row rfl 36 rfl 768 (p3F fun _ _ => 0) zeroRow ?_
       intro b_t5 w3 lk r_t5 kk
       have n_t2_t5 := zrn r_t2 lk
       have n_t4_t5 := zrn r_t4 lk
       have l_t5 := zrl HGS Bw2 lk
       replace r_t2 := zrb r_t2 kk
       replace r_t4 := zrb r_t4 kk
       have Bw3 := zbt HGS Bw2 kk
       clear Bw2 kk lk))
  go_loopw [7] (fun iv wr => ∃ k : Nat, k ≤ 3 ∧ iv = .int .i64 (k : Int) ∧ wr.rowIs b_t5 36 768 (p3F (upR (fun i => inN (colR l0 i) g) (fun _ _ => 0) k)) ∧ wr.rowIs b_t2 36 768 (p3F g) ∧ wr.rowIs b_t4 36 768 (p3F fun _ _ => 0) ∧ Below w.heap.size w wr) (fun iv _ => 3 - (intOf iv).toNat)
  case atStart => exact ⟨0, by decide, rfl, by rw [upR_zero]; exact r_t5, r_t2, r_t4, Bw3⟩
  case round =>
    clear r_t5  r_t2 r_t4 Bw3
    obtain ⟨k, hk, rfl, r_t5, r_t2, r_t4, Bw0⟩ := hrel
    by_cases hlt : k < 3
    · have hkI : 0 ≤ (k : Int) ∧ (k : Int) < 3 := by omega
      have HK := Lib.hid hlt
      clear hk hlt
      go_wp2
      have Bw1 := Bw0.drew
      replace r_t5 := World.rowIs.drew r_t5
      replace r_t2 := World.rowIs.drew r_t2
      replace r_t4 := World.rowIs.drew r_t4
      clear Bw0
      refine zpo [b_t5] (.rd 0 (.rd 1 (.rd 2 (.rd 4 .done)))) #[true, true, true, false, true, false, false, false] [3, 5, 6, 7] [some 13, some 15, some 16, none] [[], [0], [0, 1], [0, 1, 2]] [(0, []), (1, []), (2, []), (3, [1, 2]), (4, []), (5, [3, 4, 3]), (6, [0, 0, 1, 2, 3, 4, 5]), (7, [6, 5, 5, 0, 1, 2, 3, 4, 5])] 23 ?_
      refine zmv (.int .i64 (k : Int)) rfl rfl rfl rfl rfl ?_
      simp only [Act.put, zA, zB, zC]
      refine zmv (.func (.func 25) #[v0] #[]) rfl rfl rfl rfl rfl ?_
      refine zmv (.int .i64 (k : Int)) rfl rfl rfl rfl rfl ?_
      refine zld (p3F g) arrRow r_t2 (cont1 n_t2_t5) (fun i hi => by rw [Nat.zero_add]) rfl rfl rfl rfl rfl (by omega) ?_
      simp only [Act.put, zA, zB, zC]
      refine lintz_leaf ?_
      refine po_start [.val (.agg (arrOf 768 (p3F (colR l0 k)))), .val (.agg (arrOf 256 (pyF (inN (colR l0 k) g)))), .val (.pointer (some ⟨b_t5, k * 256, none⟩)), .nil] [⟨b_t5, 36, 768, (p3F (upR (fun i => inN (colR l0 i) g) (fun _ _ => 0) k)), 3, (p3F (upR (fun i => inN (colR l0 i) g) (fun _ _ => 0) (k + 1)))⟩] (fun i hi => by obtain rfl : i = 0 := by { have h9 : i < 1 := hi; omega }; exact r_t5) (fun HWF m gz wa p az hp hm hmp hcl hdn hE hJ hS hO => ?_) (fun gz wa hE hJ => ?_)
      · rcases (show p = 0 ∨ p = 1 ∨ p = 2 ∨ p = 3 by have h9 : p < 4 := hp; omega) with rfl | rfl | rfl | rfl
        · have e12 : az.eval (.tmp 12) = .int .i64 (k : Int) := hO 12 rfl
          have e11 : az.eval (.tmp 11) = .func (.func 25) #[v0] #[] := hO 11 rfl
          exact po_kvB1 HWF hJ hE (mcolumn_any v0 l0 k _ (HT.out.below (hE.below Bw1 (HGS.out _ Bw1) (keep_all1 l_t5)) HT.out.size) (HF_s0.out.below (hE.below Bw1 (HGS.out _ Bw1) (keep_all1 l_t5)) (Nat.le_refl _)) HK.out) rfl rfl rfl rfl rfl rfl e11 (ar1 e12)
        · have e14 : az.eval (.tmp 14) = .agg (arrOf 768 (p3F g)) := hO 14 rfl
          exact po_k HWF hJ hE (inner_any (colR l0 k) g _ (fun i => lt16 (colR_lt l0 k i)) Hg.out) rfl rfl rfl rfl rfl rfl (ar2 (po_e hS hdn hJ 0 13 rfl rfl rfl rfl) e14)
        · have e5 : az.eval (.tmp 5) = .pointer (some ⟨b_t5, 0, none⟩) := hO 5 rfl
          have e10 : az.eval (.tmp 10) = .int .i64 (k : Int) := hO 10 rfl
          exact po_p (Op.indexAddr 36 (Operand.tmp 5) (Operand.tmp 10)) HWF hJ hE rfl rfl rfl rfl rfl rfl rfl (by simp only [execOp, mkOp, eval_const, e5, e10]; go_simp)
        · exact po_storePart 0 (.tmp 16) (.tmp 15) 34 36 b_t5 256 768 (k * 256) _ _ _ (by rw [hm]; exact hp) hmp hJ rfl (show 0 < 1 by decide) rfl rfl rfl rfl rfl rfl (World.rowIs.lt r_t5) (by simp) (by kernel_rfl) po_ne1 hE rfl rfl rfl rfl rfl ((po_e hS hdn hJ 2 16 rfl rfl rfl rfl)) (po_e hS hdn hJ 1 15 rfl rfl rfl rfl) arrP (fun _ _ => rfl) (by have := HK.out; omega) (p3_put (rfl))
      · rw [putO_true _ _ _ _ _ rfl]
        simp only [putA, Nat.zero_add, Nat.reduceAdd]
        rw [hJ.tt 0 rfl, hJ.tt 1 rfl, hJ.tt 2 rfl]
        simp only [Act.put, zA, zB, zC]
        refine po_end ?_
        replace r_t5 : wa.rowIs b_t5 36 768 (p3F (upR (fun i => inN (colR l0 i) g) (fun _ _ => 0) (k + 1))) := hJ.old 0 (show 0 < 1 by decide) (show 3 < 4 by decide)
        replace r_t2 := Keep.row hE r_t2 (cont1 n_t2_t5)
        replace r_t4 := Keep.row hE r_t4 (cont1 n_t4_t5)
        have Bw2 := hE.below Bw1 (HGS.out _ Bw1) (keep_all1 l_t5)
        clear Bw1 hE hJ 
        go_wp2
        go_roundw
        case rel => exact ⟨k + 1, HK.out, by have := HK.out; go_num, r_t5, r_t2, r_t4, Bw2⟩
        case measure => (have := HK.out; simp [intOf]; try omega)
    · obtain rfl : k = 3 := by omega
      replace r_t5 := World.rowIs.congr r_t5 (p3_done (fun i => inN (colR l0 i) g) (fun _ _ => 0))
      go_wp2_with (first
        | (have hgo := Bw0; clear hgo
           refine wpList_load_as rfl 36 (.tmp 5) rfl 768 (p3F (fun i => inN (colR l0 i) g)) arrRow r_t5 rfl (by omega) (fun i hi => by rw [Nat.zero_add]) ?_
           have Bw1 := Bw0
           clear Bw0)
        | (have hgo := Bw1; clear hgo
           refine wpList_store_as rfl 36 (.tmp 4) (.tmp 18) rfl 768 (p3F (fun i => inN (colR l0 i) g)) arrRow r_t4 rfl rfl (by omega) (fun _ _ => rfl) (fun i hi => putN_whole hi) ?_
           intro w602 q gk
           replace r_t5 := gb_rowIs r_t5 gk (Ne.symm n_t4_t5)
           replace r_t2 := gb_rowIs r_t2 gk n_t2_t4
           replace r_t4 := q
           have Bw2 := zbg HGS Bw1 gk l_t4
           clear Bw1 gk q))
      exact ret_cell_as _ rfl arrRow r_t4 rfl (by omega) (fun _ _ => rfl) rfl ⟨rfl, Bw2⟩
end Go.Proofs.YtflblaccfiigfabDoor

/- Rows of three polynomials: written, read. -/
namespace Go.Proofs.YtflblaccfiigfabDoor
open Go.RowKit Go.Deep
set_option linter.unusedSimpArgs false
set_option linter.unusedVariables false

theorem Owns.of_blockJ {w w' : World} {base : Nat} {v : Value} {l : List UInt8} (h : Owns w base v l) (e : ∀ k, v.ownBlock = some k → base ≤ k → k < w.heap.size → w'.heap[k]? = w.heap[k]?) : Owns w' base v l := by
  obtain ⟨h1, h2⟩ := h
  rcases h2 with h2 | ⟨g, cap, cur, rfl, hb, hg, hr⟩
  · exact ⟨h1, .inl h2⟩
  · exact ⟨h1, .inr ⟨g, cap, cur, rfl, hb, (e g rfl hb (Array.getElem?_eq_some_iff.1 hg).1).trans hg, hr⟩⟩
theorem ownG {w w' : World} {base b : Nat} {v : Value} {l : List UInt8} (h : Owns w base v l) (hg : w.grownBy w' (some b)) (hb : ∀ k, v.ownBlock = some k → k ≠ b) : Owns w' base v l :=
  Owns.of_blockJ h (fun k hk _ hl => hg.block k hl (fun e => hb k hk (Option.some.inj e)))
theorem ownL {w : World} {base : Nat} {v : Value} {l : List UInt8} (h : Owns w base v l) : ∀ k, v.ownBlock = some k → k < w.heap.size := fun k hk => (World.ownsRow.lt h k hk).2
theorem encL_len (f : Nat → Nat) (d : Nat) : (encL f d).length = 32 * d := by
  unfold encL
  exact litB_length _ _
theorem rEncode_ok (f : Nat → Nat) (d : Nat) (w : World) (hf : ∀ i, f i < 65536) (h1 : 1 ≤ d) (h2 : d ≤ 12) : Calls Tryd.prog 39 #[.agg (arrOf 256 (pyF f)), .int .i64 (d : Int)] w fun e w' => ∃ v, e = .returned (.tuple #[v, .int .i64 0]) ∧ Owns w' w.heap.size v (encL f d) ∧ Below w.heap.size w w' := by
  rcases Nat.lt_or_ge d 12 with h | h
  · exact rEncodeD f d w hf ⟨h1, h⟩
  · exact rEncode12 f d w hf (by omega)
/-- The first k of three polynomials, written. -/
def wrL (f : Nat → Nat → Nat) (d : Nat) : Nat → List UInt8
  | 0 => []
  | k + 1 => wrL f d k ++ encL (f k) d
theorem wrL_len (f : Nat → Nat → Nat) (d : Nat) : ∀ k, (wrL f d k).length = 32 * d * k
  | 0 => rfl
  | k + 1 => by rw [wrL, List.length_append, wrL_len f d k, encL_len, Nat.mul_succ]
set_option maxHeartbeats 4000000 in
set_option maxRecDepth 20000 in
theorem written_any (f : Nat → Nat → Nat) (d : Nat) (w : World) (hf : ∀ i j, f i j < 65536) (hd1 : 1 ≤ d) (hd2 : d ≤ 12) : Calls Tryd.prog 21 #[.agg (arrOf 768 (p3F f)), .int .i64 (d : Int)] w fun e w' => ∃ v, e = .returned v ∧ Owns w' w.heap.size v (wrL f d 3) ∧ Below w.heap.size w w' := by
  have Bw0 := Below.refl w.heap.size w
  have HGS : Hid (∀ wq : World, Below w.heap.size w wq → w.heap.size ≤ wq.heap.size) := Lib.hid fun wq h => h.size
  have Hf := Lib.hid hf
  have HD := Lib.hid (And.intro hd1 hd2)
  clear hf hd1 hd2
  go_enter Tryd.func21, Tryd.ntmps21
  go_wp2_with (first
    | (have hgo := Bw0; clear hgo
       refine wpList_box_row rfl 36 (.tmp 0) rfl 768 (p3F f) rfl ?_
       intro b_t2 w1 lk r_t2 kk
       have l_t2 := zrl HGS Bw0 lk
       have Bw1 := zbt HGS Bw0 kk
       clear Bw0 kk lk)
    | (have hgo := Bw1; clear hgo
       refine wpList_load_as rfl 36 (.tmp 2) rfl 768 (p3F f) arrRow r_t2 rfl (by omega) (fun i hi => by rw [Nat.zero_add]) ?_
       have Bw2 := Bw1
       clear Bw1))
  obtain ⟨BS, hBS⟩ : ∃ n, n = w1.heap.size := ⟨_, rfl⟩
  have HB2 : Hid (b_t2 < BS) := Lib.hid (by rw [hBS]; exact World.rowIs.lt r_t2)
  have HB0 : Hid (w.heap.size ≤ BS) := Lib.hid (by rw [hBS]; exact HGS.out _ Bw2)
  have HBL : Hid (BS ≤ w1.heap.size) := Lib.hid (by rw [hBS]; exact Nat.le_refl _)
  clear hBS
  go_loopw [5, 11] (fun sv iv wr => ∃ (k : Nat) (v : Value), k ≤ 3 ∧ v = sv ∧ iv = .int .i64 (k : Int) ∧ Owns wr BS v (wrL f d k) ∧ wr.rowIs b_t2 36 768 (p3F f) ∧ BS ≤ wr.heap.size ∧ Below w.heap.size w wr) (fun _ iv _ => 3 - (intOf iv).toNat)
  case atStart => exact ⟨0, _, by decide, rfl, rfl, Owns.nil _ _, r_t2, HBL.out, Bw2⟩
  case round =>
    clear r_t2 Bw2 HBL
    obtain ⟨k, v, hk, rfl, rfl, hown, r_t2, hbs, Bw0⟩ := hrel
    by_cases hlt : k < 3
    · have hkI : 0 ≤ (k : Int) ∧ (k : Int) < 3 := by omega
      have HK := Lib.hid hlt
      have HENC := Lib.hid fun w => rEncode_ok (f k) d w (Hf.out k) HD.out.1 HD.out.2
      have HLEN : Hid ((wrL f d k).length + (encL (f k) d).length ≤ 2147483647) := Lib.hid (by
        have h1 := HD.out.2
        rw [wrL_len, encL_len, ← Nat.mul_succ]
        exact Nat.le_trans (Nat.mul_le_mul (Nat.mul_le_mul_left 32 h1) (show k + 1 ≤ 3 by omega)) (by decide))
      clear hk hlt
      go_wp2_with (first
        | refine wpList_index_rows rfl 36 34 (.tmp 10) (.tmp 11) rfl 3 256 (by kernel_rfl) arrP rfl rfl HK.out (by decide) (p3_part f k) ?_
        | (have hgo := Bw0; clear hgo
           refine wpList_alloc_row rfl 34 rfl 256 (pyF fun _ => 0) zeroP ?_
           intro b_t7 w3 lk r_t7 kk
           have hne : Hid (∀ k, v.ownBlock = some k → k ≠ b_t7) := Lib.hid fun k hk => Nat.ne_of_lt (Nat.lt_of_lt_of_le (ownL hown k hk) lk)
           have n_t2_t7 := zrn r_t2 lk
           have l_t7 := zrl HGS Bw0 lk
           replace r_t2 := zrb r_t2 kk
           replace hown := Owns.belowJ hown kk
           replace hbs := Nat.le_trans hbs kk.size
           have Bw1 := zbt HGS Bw0 kk
           clear Bw0 kk lk)
        | (have hgo := Bw1; clear hgo
           refine wpList_store_as rfl 34 (.tmp 7) (.tmp 13) rfl 256 (pyF (f k)) arrP r_t7 rfl rfl (by omega) (fun _ _ => rfl) (fun i hi => putN_whole hi) ?_
           intro w4 q gk
           replace r_t2 := gb_rowIs r_t2 gk n_t2_t7
           replace hown := ownG hown gk hne.out
           replace hbs := Nat.le_trans hbs gk.size
           have Bw2 := zbg HGS Bw1 gk l_t7
           clear Bw1 gk hne r_t7)
        | (have hgo := Bw2; clear hgo
           refine wpList_load_as rfl 34 (.tmp 7) rfl 256 (pyF (f k)) arrP q rfl (by omega) (fun i hi => by rw [Nat.zero_add]) ?_
           have Bw3 := Bw2
           clear Bw2)
        | (have hgo := HENC; clear hgo
           go_at_call 39
           refine (HENC.out _).mono ?_
           rintro e w5 ⟨v_e, rfl, o_e, kk⟩
           have f_e := o_e.bs
           replace r_t2 := zrb r_t2 kk
           replace hown := Owns.belowJ hown kk
           replace hbs := Nat.le_trans hbs kk.size
           have Bw4 := zbt HGS Bw3 kk
           clear Bw3 kk o_e q HENC)
        | (have hgo := f_e; clear hgo
           refine wpList_app rfl (.tmp 20) (.tmp 21) rfl BS _ _ (wrL f d k) (encL (f k) d) hown f_e rfl rfl HLEN.out hbs ?_
           intro v2 w6 hown2 g6
           have Bw5 := Bw4.grown g6 (HGS.out _ Bw4) (fun j hj => Nat.le_trans HB0.out (Owns.block hown j hj))
           replace r_t2 := World.rowIs.of_block r_t2 (g6.block _ (World.rowIs.lt r_t2) (fun e => absurd (Owns.block hown _ e.symm) (Nat.not_le_of_lt HB2.out)))
           replace hbs := Nat.le_trans hbs g6.size
           clear Bw4 g6 f_e hown))
      go_roundw
      case rel => exact ⟨k + 1, _, HK.out, rfl, by have := HK.out; go_num, hown2, r_t2, hbs, Bw5⟩
      case measure => (have := HK.out; simp [intOf]; try omega)
    · obtain rfl : k = 3 := by omega
      replace hown := Owns.lower hown HB0.out
      go_wp2
      go_ret
      exact ⟨_, rfl, hown, Bw0⟩
theorem builtRow0 : Tryd.prog.built 36 [] = some (arrOf 768 (p3F fun _ _ => 0)) := by kernel_rfl
/-- The i-th of three polynomials that are read of bytes, of d digits a number. -/
def rdV (l : List UInt8) (d i : Nat) : Nat → Nat := decV (numL ((l.take (32 * d * (i + 1))).drop (32 * d * i)) (32 * d)) d
def okR (l : List UInt8) (d : Nat) : Nat → Bool
  | 0 => true
  | k + 1 => okR l d k && mayN (rdV l d k)
theorem okR_no (l : List UInt8) (d n : Nat) (h : okR l d n = false) : ∀ k, okR l d (n + k) = false
  | 0 => h
  | k + 1 => by
    show (okR l d (n + k) && _) = false
    rw [okR_no l d n h k, Bool.false_and]
def rdR (l : List UInt8) (d : Nat) : Nat → Nat → Nat := if okR l d 3 = true then rdV l d else fun _ _ => 0
def rdE (l : List UInt8) (d : Nat) : Nat := if okR l d 3 = true then 0 else 2
set_option maxHeartbeats 4000000 in
set_option maxRecDepth 20000 in
theorem kread_any (d : Nat) (v1 : Value) (l1 : List UInt8) (w : World) (h1 : Bs w v1 l1) (hl : l1.length = 96 * d) (hd1 : 1 ≤ d) (hd2 : d ≤ 12) : Calls Tryd.prog 23 #[.int .i64 (d : Int), v1] w fun e w' => e = .returned (.tuple #[.agg (arrOf 768 (p3F (rdR l1 d))), .int .i64 ((rdE l1 d : Nat) : Int)]) ∧ Below w.heap.size w w' := by
  have Bw0 := Below.refl w.heap.size w
  have HGS : Hid (∀ wq : World, Below w.heap.size w wq → w.heap.size ≤ wq.heap.size) := Lib.hid fun wq h => h.size
  obtain ⟨ad0, n0, c0, rfl, e0, y0, z0, hB0⟩ := h1.shape
  obtain ⟨S, hS⟩ := nat_var (32 * d)
  have hq1 : IntKind.i64.wrap ((n0 : Int).tdiv 3) = (S : Int) := by rw [Int.tdiv_eq_ediv_of_nonneg (by omega), IntWalk.i64_in _ (by omega)]; omega
  have hq2 : IntKind.i64.wrap ((n0 : Int) / 3) = (S : Int) := by rw [IntWalk.i64_in _ (by omega)]; omega
  have HB := Lib.hid fun W (hW : Below w.heap.size w W) => hB0.below hW (Nat.le_refl _)
  have HL : Hid (l1.length = 3 * S) := Lib.hid (by omega)
  have HS := Lib.hid hS
  have HD : Hid (1 ≤ d ∧ d ≤ 12 ∧ S ≤ 384) := Lib.hid (by omega)
  obtain ⟨RR, hRR⟩ : ∃ R, R = rdR l1 d := ⟨_, rfl⟩
  obtain ⟨EE, hEE⟩ : ∃ E, E = rdE l1 d := ⟨_, rfl⟩
  rw [← hRR, ← hEE]
  have HRR := Lib.hid hRR
  have HEE := Lib.hid hEE
  clear h1 hB0 hl hS hd1 hd2 e0 hRR hEE
  go_enter Tryd.func23, Tryd.ntmps23
  go_wp2_with (first
    | (have hgo := Bw0; clear hgo
       refine wpList_alloc_row rfl 36 rfl 768 (p3F fun _ _ => 0) zeroRow ?_
       intro b_t4 w1 lk r_t4 kk
       have l_t4 := zrl HGS Bw0 lk
       have Bw1 := zbt HGS Bw0 kk
       clear Bw0 kk lk)
    | (have hgo := Bw1; clear hgo
       refine wpList_alloc_row rfl 36 rfl 768 (p3F fun _ _ => 0) zeroRow ?_
       intro b_t6 w3 lk r_t6 kk
       have n_t4_t6 := zrn r_t4 lk
       have l_t6 := zrl HGS Bw1 lk
       replace r_t4 := zrb r_t4 kk
       have Bw2 := zbt HGS Bw1 kk
       clear Bw1 kk lk))
  go_loopw [14] (fun iv wr => ∃ k : Nat, k ≤ 3 ∧ iv = .int .i64 (k : Int) ∧ Hid (okR l1 d k = true) ∧ wr.rowIs b_t4 36 768 (p3F fun _ _ => 0) ∧ wr.rowIs b_t6 36 768 (p3F (upR (rdV l1 d) (fun _ _ => 0) k)) ∧ Below w.heap.size w wr) (fun iv _ => 3 - (intOf iv).toNat)
  case atStart => exact ⟨0, by decide, rfl, Lib.hid rfl, r_t4, by rw [upR_zero]; exact r_t6, Bw2⟩
  case round =>
    clear r_t4 r_t6 Bw2
    obtain ⟨k, hk, rfl, HU, r_t4, r_t6, Bw0⟩ := hrel
    by_cases hlt : k < 3
    · have hkI : 0 ≤ (k : Int) ∧ (k : Int) < 3 := by omega
      have HK := Lib.hid hlt
      have hsl := HD.out.2.2
      obtain ⟨lo, hlo⟩ := nat_var (S * k)
      obtain ⟨k1, hk1⟩ := nat_var (k + 1)
      obtain ⟨hh, hhh⟩ := nat_var (S * k1)
      have hlS : lo ≤ 384 * 3 := by rw [hlo]; exact Nat.mul_le_mul hsl hk
      have hhS : hh ≤ 384 * 3 := by rw [hhh]; exact Nat.mul_le_mul hsl (by omega)
      have hhe : hh = lo + S := by rw [hhh, hlo, hk1, Nat.mul_succ]
      have hh3 : hh ≤ 3 * S := by rw [hhh, Nat.mul_comm 3 S]; exact Nat.mul_le_mul_left S (by omega)
      have hwk : IntKind.i64.wrap ((k : Int) + 1) = (k1 : Int) := by rw [IntWalk.i64_in _ (by omega)]; omega
      have hwlo : IntKind.i64.wrap ((S : Int) * (k : Int)) = (lo : Int) := by rw [← Int.natCast_mul, ← hlo, IntWalk.i64_in _ (by omega)]
      have hwhh : IntKind.i64.wrap ((S : Int) * (k1 : Int)) = (hh : Int) := by rw [← Int.natCast_mul, ← hhh, IntWalk.i64_in _ (by omega)]
      have HLO : Hid (lo ≤ hh) := Lib.hid (by omega)
      have HHH : Hid (hh ≤ l1.length) := Lib.hid (by rw [HL.out]; exact hh3)
      have hlen : ((l1.take hh).drop lo).length = 32 * d := by
        rw [List.length_drop, List.length_take, HL.out, Nat.min_eq_left hh3, hhe, Nat.add_sub_cancel_left]
        exact HS.out
      have hpv : rdV l1 d k = decV (numL ((l1.take hh).drop lo) (32 * d)) d := by unfold rdV; rw [hlo, hhh, hk1, HS.out]
      obtain ⟨V, hV⟩ : ∃ V, V = rdV l1 d k := ⟨_, rfl⟩
      have hdec := fun v w h => rDecode_ok d v ((l1.take hh).drop lo) w h hlen HD.out.1 HD.out.2.1
      rw [← hpv, ← hV] at hdec
      have f_b := HB.out _ Bw0
      have HK1 := Lib.hid hk1
      by_cases hm : mayN V = true
      · rw [if_pos hm, if_pos hm] at hdec
        have HDEC := Lib.hid hdec
        have HU2 : Hid (okR l1 d (k + 1) = true) := Lib.hid (by rw [okR, HU.out, ← hV, hm]; rfl)
        have HV := Lib.hid hV
        clear hdec hpv hlen hV hm hlo hhh hhe hh3 hlS hhS hsl hk hlt hk1 hq1 hq2 HU
        go_wp2_with (first
        | (obtain ⟨v_s, f_s, hrs⟩ := partB f_b lo hh HLO.out HHH.out
           refine wpList_value rfl _ (by rw [exec_mkOp]; exact hrs _ _ _ _ _ _ rfl rfl rfl) ?_
           clear hrs f_b)
        | (have hgo := f_s; clear hgo
           go_at_call 42
           refine (HDEC.out _ _ f_s).mono ?_
           rintro e w5 ⟨rfl, kk⟩
           replace r_t4 := zrb r_t4 kk
           replace r_t6 := zrb r_t6 kk
           have Bw1 := zbt HGS Bw0 kk
           clear Bw0 kk f_s HDEC)
        | (have hgo := Bw1; clear hgo
           refine wpList_alloc_row rfl 34 rfl 256 (pyF fun _ => 0) zeroP ?_
           intro b_t9 w6 lk r_t9 kk
           have n_t4_t9 := zrn r_t4 lk
           have n_t6_t9 := zrn r_t6 lk
           have l_t9 := zrl HGS Bw1 lk
           replace r_t4 := zrb r_t4 kk
           replace r_t6 := zrb r_t6 kk
           have Bw2 := zbt HGS Bw1 kk
           clear Bw1 kk lk)
        | (have hgo := Bw2; clear hgo
           refine wpList_store_as rfl 34 (.tmp 9) (.tmp 29) rfl 256 (pyF V) arrP r_t9 rfl rfl (by omega) (fun _ _ => rfl) (fun i hi => putN_whole hi) ?_
           intro w7 q7 g7
           replace r_t4 := gb_rowIs r_t4 g7 n_t4_t9
           replace r_t6 := gb_rowIs r_t6 g7 n_t6_t9
           have Bw3 := zbg HGS Bw2 g7 l_t9
           clear Bw2 g7 r_t9)
        | (have hgo := Bw3; clear hgo
           refine wpList_load_as rfl 34 (.tmp 9) rfl 256 (pyF V) arrP q7 rfl (by omega) (fun i hi => by rw [Nat.zero_add]) ?_
           have Bw4 := Bw3
           clear Bw3)
        | (have hgo := Bw4; clear hgo
           refine wpList_store_as rfl 34 (.tmp 37) (.tmp 36) rfl 256 (p3F (upR (rdV l1 d) (fun _ _ => 0) (k + 1))) arrP r_t6 rfl rfl (by have := HK.out; omega) (fun _ _ => rfl) (p3_put HV.out) ?_
           intro w8 q8 g8
           replace r_t4 := gb_rowIs r_t4 g8 n_t4_t6
           have Bw5 := zbg HGS Bw4 g8 l_t6
           clear Bw4 g8 r_t6 q7))
        go_roundw
        case rel => exact ⟨k + 1, HK.out, by rw [HK1.out], HU2, r_t4, q8, Bw5⟩
        case measure => (have := HK.out; have := HK1.out; simp [intOf]; try omega)
      · rw [if_neg hm, if_neg hm] at hdec
        have HDEC := Lib.hid hdec
        have hno : okR l1 d (k + 1) = false := by rw [okR, HU.out, ← hV, Bool.eq_false_iff.2 hm]; rfl
        have hno3 : ¬ okR l1 d 3 = true := by
          have h9 := okR_no l1 d (k + 1) hno (3 - (k + 1))
          rw [show k + 1 + (3 - (k + 1)) = 3 by omega] at h9
          rw [h9]; decide
        have hR : RR = fun _ _ => 0 := by rw [HRR.out]; exact if_neg hno3
        have hE : EE = 2 := by rw [HEE.out]; exact if_neg hno3
        have HR := Lib.hid hR.symm
        subst hE
        clear hdec hpv hlen hV hm hlo hhh hhe hh3 hlS hhS hsl hk hlt hk1 hq1 hq2 HU hno hno3 hR
        go_wp2_with (first
        | (obtain ⟨v_s, f_s, hrs⟩ := partB f_b lo hh HLO.out HHH.out
           refine wpList_value rfl _ (by rw [exec_mkOp]; exact hrs _ _ _ _ _ _ rfl rfl rfl) ?_
           clear hrs f_b)
        | (have hgo := f_s; clear hgo
           go_at_call 42
           refine (HDEC.out _ _ f_s).mono ?_
           rintro e w5 ⟨rfl, kk⟩
           replace r_t4 := zrb r_t4 kk
           replace r_t6 := zrb r_t6 kk
           have Bw1 := zbt HGS Bw0 kk
           clear Bw0 kk f_s HDEC)
        | (have hgo := Bw1; clear hgo
           refine wpList_alloc_row rfl 34 rfl 256 (pyF fun _ => 0) zeroP ?_
           intro b_t9 w6 lk r_t9 kk
           have n_t4_t9 := zrn r_t4 lk
           have n_t6_t9 := zrn r_t6 lk
           have l_t9 := zrl HGS Bw1 lk
           replace r_t4 := zrb r_t4 kk
           replace r_t6 := zrb r_t6 kk
           have Bw2 := zbt HGS Bw1 kk
           clear Bw1 kk lk)
        | (have hgo := Bw2; clear hgo
           refine wpList_store_as rfl 34 (.tmp 9) (.tmp 29) rfl 256 (pyF fun _ => 0) arrP r_t9 rfl rfl (by omega) (fun _ _ => rfl) (fun i hi => putN_whole hi) ?_
           intro w7 q7 g7
           replace r_t4 := gb_rowIs r_t4 g7 n_t4_t9
           replace r_t6 := gb_rowIs r_t6 g7 n_t6_t9
           have Bw3 := zbg HGS Bw2 g7 l_t9
           clear Bw2 g7 r_t9)
        | (refine wpList_build_arr rfl 36 #[] rfl (arrOf 768 (p3F RR)) ?_ ?_
           · simp only [List.map_toArray, List.map_nil]
             rw [← HR.out]
             exact builtRow0)
        | (have hgo := Bw3; clear hgo
           refine wpList_store_as rfl 36 (.tmp 4) (.tmp 33) rfl 768 (p3F RR) arrRow r_t4 rfl rfl (by omega) (fun _ _ => rfl) (fun i hi => putN_whole hi) ?_
           intro w9 q9 g9
           have Bw9 := Bw3.grown g9 (HGS.out _ Bw3) (by intro k hk; cases hk; exact l_t4)
           clear Bw3 g9 r_t4))
        exact ret_cell_as_tmp _ rfl arrRow q9 rfl rfl (by omega) (fun _ _ => rfl) rfl ⟨rfl, Bw9⟩
    · obtain rfl : k = 3 := by omega
      have hR : RR = rdV l1 d := by rw [HRR.out]; exact if_pos HU.out
      have hE : EE = 0 := by rw [HEE.out]; exact if_pos HU.out
      subst hE
      replace r_t6 := World.rowIs.congr r_t6 (p3_done (rdV l1 d) (fun _ _ => 0))
      rw [← hR] at r_t6
      clear hR hk hlt HU
      go_wp2_with (first
        | (refine wpList_load_as rfl 36 (.tmp 6) rfl 768 (p3F RR) arrRow r_t6 rfl (by omega) (fun i hi => by rw [Nat.zero_add]) ?_)
        | (have hgo := Bw0; clear hgo
           refine wpList_store_as rfl 36 (.tmp 4) (.tmp 39) rfl 768 (p3F RR) arrRow r_t4 rfl rfl (by omega) (fun _ _ => rfl) (fun i hi => putN_whole hi) ?_
           intro w9 q9 g9
           have Bw9 := Bw0.grown g9 (HGS.out _ Bw0) (by intro k hk; cases hk; exact l_t4)
           clear Bw0 g9 r_t4))
      exact ret_cell_as_tmp _ rfl arrRow q9 rfl rfl (by omega) (fun _ _ => rfl) rfl ⟨rfl, Bw9⟩
end Go.Proofs.YtflblaccfiigfabDoor

/- K-PKE of the program. -/
namespace Go.Proofs.YtflblaccfiigfabDoor
open Go.RowKit Go.Deep
set_option linter.unusedSimpArgs false
set_option linter.unusedVariables false

theorem sum3_512_one (v : Value) (L : List (List UInt8)) (w : World) (hL : Laid3 w) (hB : Bss w v L) : Calls Tryd.prog 24 #[v] w fun e w' => ∃ v', e = .returned v' ∧ Bs w' v' (spongeL 72 6 L.flatten 64) ∧ Below w.heap.size w w' := sum3_512_any v L w hL hB
theorem kcat_one (v : Value) (l m : List UInt8) (w : World) (hv : Bss w v [l]) (hlen : l.length ≤ 2147483647) (hm : l = m) : Calls Tryd.prog 9 #[v] w fun e w' => ∃ v', e = .returned v' ∧ Bs w' v' m ∧ Below w.heap.size w w' := by
  subst hm
  have h := cat_any v [l] w hv (by simpa using hlen)
  refine h.mono ?_
  rintro e w' ⟨v', rfl, ho, kk⟩
  exact ⟨v', rfl, by simpa using ho.bs, kk⟩
/-- What FIPS 203's G makes of bytes: two halves. -/
def gA (L : List (List UInt8)) : List UInt8 := (spongeL 72 6 L.flatten 64).take 32
def gB (L : List (List UInt8)) : List UInt8 := (spongeL 72 6 L.flatten 64).drop 32
set_option maxHeartbeats 4000000 in
set_option maxRecDepth 20000 in
theorem halves_any (v_r0 : Value) (L : List (List UInt8)) (w : World) (hL : Laid3 w) (h0 : Bss w v_r0 L) : Calls Tryd.prog 12 #[v_r0] w fun e w' => ∃ v1 v2, e = .returned (.tuple #[v1, v2]) ∧ Bs w' v1 (gA L) ∧ Bs w' v2 (gB L) ∧ Below w.heap.size w w' := by
  have Bw0 := Below.refl w.heap.size w
  have HGS : Hid (∀ wq : World, Below w.heap.size w wq → w.heap.size ≤ wq.heap.size) := Lib.hid fun wq h => h.size
  have F_r0 := h0
  have HT := Lib.hid hL
  obtain ⟨G, hG⟩ : ∃ G, G = spongeL 72 6 L.flatten 64 := ⟨_, rfl⟩
  have HSM := Lib.hid fun v w h1 h2 => sum3_512_one v L w h1 h2
  have HGL : Hid (G.length = 64) := Lib.hid (by rw [hG]; exact spongeL_length _ _ _ _)
  rw [← hG] at HSM
  have HGA : Hid (gA L = G.take 32) := Lib.hid (by rw [hG]; rfl)
  have HGB : Hid (gB L = G.drop 32) := Lib.hid (by rw [hG]; rfl)
  clear h0 hL hG
  go_enter Tryd.func12, Tryd.ntmps12
  go_wp2_with (first
    | (have hgo := Bw0; clear hgo
       go_at_call 24
       refine (HSM.out _ _ HT.out F_r0).mono ?_
       rintro e w4 ⟨v_s6, rfl, f_s6, kk⟩
       have Bw1 := zbt HGS Bw0 kk
       clear Bw0 kk))
  have Bw2 := Bw1.drew
  replace f_s6 := Bs.drew f_s6
  clear Bw1
  refine wp_region_lint (.rd 0 (.rd 1 (.rd 4 (.rd 5 (.br 2 (.br 3 (.wr 6 (.wr 7 (.rd 8 (.rd 9 .done)))) 6 (.wr 3 (.wr 7 (.rd 8 (.rd 9 .done))))) 6 (.wr 2 (.wr 3 (.wr 7 (.rd 8 (.rd 9 .done)))))))))) (by kernel_rfl) (by kernel_rfl) (by decide) (by kernel_rfl) (fun d _ _ _ _ h => by cases d <;> exact h) ?_
  refine lint_pure 7 (Op.move (Operand.tmp 4)) 22 (v_s6) rfl rfl rfl rfl rfl (fun w0 hb0 => by unfold mkOp; go_simp; all_goals (with_reducible rfl)) ?_
  simp only [Act.put, zA, zB, zC]
  obtain ⟨v_s8, f_s8, hr8⟩ := takeB f_s6 32 (by rw [HGL.out]; decide)
  refine lint_pure 8 (Op.slice 22 (Operand.tmp 7) none (some (Operand.const (Value.int IntKind.i64 32))) none) 22 v_s8 rfl rfl rfl rfl rfl (fun w0 hb0 => by exact hr8 _ _ _ _ w0 rfl rfl) ?_
  clear hr8
  simp only [Act.put, zA, zB, zC]
  refine lint_pure 11 (Op.move (Operand.tmp 4)) 22 (v_s6) rfl rfl rfl rfl rfl (fun w0 hb0 => by unfold mkOp; go_simp; all_goals (with_reducible rfl)) ?_
  simp only [Act.put, zA, zB, zC]
  obtain ⟨v_s12, f_s12, hr12⟩ := dropB f_s6 32 (by rw [HGL.out]; decide)
  refine lint_pure 12 (Op.slice 22 (Operand.tmp 11) (some (Operand.const (Value.int IntKind.i64 32))) none none) 22 v_s12 rfl rfl rfl rfl rfl (fun w0 hb0 => by exact hr12 _ _ _ _ w0 rfl rfl) ?_
  clear hr12
  simp only [Act.put, zA, zB, zC]
  refine ⟨?_, ?_⟩
  · skip
    refine stp_rows1 9 (.tmp 8) 53 rfl rfl rfl rfl rfl f_s8 rfl ?_
    intro w6 v_r9 F_r9 kk
    replace f_s6 := zfb f_s6 kk
    replace f_s8 := zfb f_s8 kk
    replace f_s12 := zfb f_s12 kk
    have Bw3 := zbt HGS Bw2 kk
    clear Bw2 kk
    simp only [Act.put, zA, zB, zC]
    refine ⟨?_, ?_⟩
    · skip
      refine stp_fn 10 9 #[Operand.tmp 9] #[53] _ (kcat_one _ _ (gA L) _ F_r9 (by have := HGL.out; simp; omega) HGA.out.symm) rfl rfl rfl rfl Tryd.func9 (by kernel_rfl) (by kernel_rfl) (by go_simp) ?_
      rintro e w7 ⟨v_s10, rfl, f_s10, kk⟩
      refine ⟨_, rfl, kk, ?_⟩
      replace f_s6 := zfb f_s6 kk
      replace f_s8 := zfb f_s8 kk
      replace f_s12 := zfb f_s12 kk
      replace F_r9 := Bss.below F_r9 kk (Nat.le_refl _)
      have Bw4 := zbt HGS Bw3 kk
      clear Bw3 kk
      simp only [Act.put, zA, zB, zC]
      refine stp_rows1 13 (.tmp 12) 53 rfl rfl rfl rfl rfl f_s12 rfl ?_
      intro w8 v_r13 F_r13 kk
      replace f_s6 := zfb f_s6 kk
      replace f_s8 := zfb f_s8 kk
      replace f_s12 := zfb f_s12 kk
      replace f_s10 := zfb f_s10 kk
      replace F_r9 := Bss.below F_r9 kk (Nat.le_refl _)
      have Bw5 := zbt HGS Bw4 kk
      clear Bw4 kk
      simp only [Act.put, zA, zB, zC]
      refine stp_fn 14 9 #[Operand.tmp 13] #[53] _ (kcat_one _ _ (gB L) _ F_r13 (by have := HGL.out; simp; omega) HGB.out.symm) rfl rfl rfl rfl Tryd.func9 (by kernel_rfl) (by kernel_rfl) (by go_simp) ?_
      rintro e w9 ⟨v_s14, rfl, f_s14, kk⟩
      refine ⟨_, rfl, kk, ?_⟩
      replace f_s6 := zfb f_s6 kk
      replace f_s8 := zfb f_s8 kk
      replace f_s12 := zfb f_s12 kk
      replace f_s10 := zfb f_s10 kk
      replace F_r9 := Bss.below F_r9 kk (Nat.le_refl _)
      replace F_r13 := Bss.below F_r13 kk (Nat.le_refl _)
      have Bw6 := zbt HGS Bw5 kk
      clear Bw5 kk
      simp only [Act.put, zA, zB, zC]
      refine lint_pure 2 (Op.assign (Operand.tmp 10)) 22 (v_s10) rfl rfl rfl rfl rfl (fun w0 hb0 => by unfold mkOp; go_simp; all_goals (with_reducible rfl)) ?_
      simp only [Act.put, zA, zB, zC]
      refine lint_pure 3 (Op.assign (Operand.tmp 14)) 22 (v_s14) rfl rfl rfl rfl rfl (fun w0 hb0 => by unfold mkOp; go_simp; all_goals (with_reducible rfl)) ?_
      simp only [Act.put, zA, zB, zC]
      refine lint_end ?_
      go_wp2
      go_ret2
      exact ⟨_, _, rfl, f_s10, f_s14, Bw6⟩
    · skip
      refine stp_rows1 13 (.tmp 12) 53 rfl rfl rfl rfl rfl f_s12 rfl ?_
      intro w7 v_r13 F_r13 kk
      replace f_s6 := zfb f_s6 kk
      replace f_s8 := zfb f_s8 kk
      replace f_s12 := zfb f_s12 kk
      replace F_r9 := Bss.below F_r9 kk (Nat.le_refl _)
      have Bw4 := zbt HGS Bw3 kk
      clear Bw3 kk
      simp only [Act.put, zA, zB, zC]
      refine stp_fn 10 9 #[Operand.tmp 9] #[53] _ (kcat_one _ _ (gA L) _ F_r9 (by have := HGL.out; simp; omega) HGA.out.symm) rfl rfl rfl rfl Tryd.func9 (by kernel_rfl) (by kernel_rfl) (by go_simp) ?_
      rintro e w8 ⟨v_s10, rfl, f_s10, kk⟩
      refine ⟨_, rfl, kk, ?_⟩
      replace f_s6 := zfb f_s6 kk
      replace f_s8 := zfb f_s8 kk
      replace f_s12 := zfb f_s12 kk
      replace F_r9 := Bss.below F_r9 kk (Nat.le_refl _)
      replace F_r13 := Bss.below F_r13 kk (Nat.le_refl _)
      have Bw5 := zbt HGS Bw4 kk
      clear Bw4 kk
      simp only [Act.put, zA, zB, zC]
      refine stp_fn 14 9 #[Operand.tmp 13] #[53] _ (kcat_one _ _ (gB L) _ F_r13 (by have := HGL.out; simp; omega) HGB.out.symm) rfl rfl rfl rfl Tryd.func9 (by kernel_rfl) (by kernel_rfl) (by go_simp) ?_
      rintro e w9 ⟨v_s14, rfl, f_s14, kk⟩
      refine ⟨_, rfl, kk, ?_⟩
      replace f_s6 := zfb f_s6 kk
      replace f_s8 := zfb f_s8 kk
      replace f_s12 := zfb f_s12 kk
      replace f_s10 := zfb f_s10 kk
      replace F_r9 := Bss.below F_r9 kk (Nat.le_refl _)
      replace F_r13 := Bss.below F_r13 kk (Nat.le_refl _)
      have Bw6 := zbt HGS Bw5 kk
      clear Bw5 kk
      simp only [Act.put, zA, zB, zC]
      refine lint_pure 2 (Op.assign (Operand.tmp 10)) 22 (v_s10) rfl rfl rfl rfl rfl (fun w0 hb0 => by unfold mkOp; go_simp; all_goals (with_reducible rfl)) ?_
      simp only [Act.put, zA, zB, zC]
      refine lint_pure 3 (Op.assign (Operand.tmp 14)) 22 (v_s14) rfl rfl rfl rfl rfl (fun w0 hb0 => by unfold mkOp; go_simp; all_goals (with_reducible rfl)) ?_
      simp only [Act.put, zA, zB, zC]
      refine lint_end ?_
      go_wp2
      go_ret2
      exact ⟨_, _, rfl, f_s10, f_s14, Bw6⟩
  · skip
    refine stp_rows1 13 (.tmp 12) 53 rfl rfl rfl rfl rfl f_s12 rfl ?_
    intro w6 v_r13 F_r13 kk
    replace f_s6 := zfb f_s6 kk
    replace f_s8 := zfb f_s8 kk
    replace f_s12 := zfb f_s12 kk
    have Bw3 := zbt HGS Bw2 kk
    clear Bw2 kk
    simp only [Act.put, zA, zB, zC]
    refine stp_rows1 9 (.tmp 8) 53 rfl rfl rfl rfl rfl f_s8 rfl ?_
    intro w7 v_r9 F_r9 kk
    replace f_s6 := zfb f_s6 kk
    replace f_s8 := zfb f_s8 kk
    replace f_s12 := zfb f_s12 kk
    replace F_r13 := Bss.below F_r13 kk (Nat.le_refl _)
    have Bw4 := zbt HGS Bw3 kk
    clear Bw3 kk
    simp only [Act.put, zA, zB, zC]
    refine stp_fn 10 9 #[Operand.tmp 9] #[53] _ (kcat_one _ _ (gA L) _ F_r9 (by have := HGL.out; simp; omega) HGA.out.symm) rfl rfl rfl rfl Tryd.func9 (by kernel_rfl) (by kernel_rfl) (by go_simp) ?_
    rintro e w8 ⟨v_s10, rfl, f_s10, kk⟩
    refine ⟨_, rfl, kk, ?_⟩
    replace f_s6 := zfb f_s6 kk
    replace f_s8 := zfb f_s8 kk
    replace f_s12 := zfb f_s12 kk
    replace F_r13 := Bss.below F_r13 kk (Nat.le_refl _)
    replace F_r9 := Bss.below F_r9 kk (Nat.le_refl _)
    have Bw5 := zbt HGS Bw4 kk
    clear Bw4 kk
    simp only [Act.put, zA, zB, zC]
    refine stp_fn 14 9 #[Operand.tmp 13] #[53] _ (kcat_one _ _ (gB L) _ F_r13 (by have := HGL.out; simp; omega) HGB.out.symm) rfl rfl rfl rfl Tryd.func9 (by kernel_rfl) (by kernel_rfl) (by go_simp) ?_
    rintro e w9 ⟨v_s14, rfl, f_s14, kk⟩
    refine ⟨_, rfl, kk, ?_⟩
    replace f_s6 := zfb f_s6 kk
    replace f_s8 := zfb f_s8 kk
    replace f_s12 := zfb f_s12 kk
    replace f_s10 := zfb f_s10 kk
    replace F_r13 := Bss.below F_r13 kk (Nat.le_refl _)
    replace F_r9 := Bss.below F_r9 kk (Nat.le_refl _)
    have Bw6 := zbt HGS Bw5 kk
    clear Bw5 kk
    simp only [Act.put, zA, zB, zC]
    refine lint_pure 2 (Op.assign (Operand.tmp 10)) 22 (v_s10) rfl rfl rfl rfl rfl (fun w0 hb0 => by unfold mkOp; go_simp; all_goals (with_reducible rfl)) ?_
    simp only [Act.put, zA, zB, zC]
    refine lint_pure 3 (Op.assign (Operand.tmp 14)) 22 (v_s14) rfl rfl rfl rfl rfl (fun w0 hb0 => by unfold mkOp; go_simp; all_goals (with_reducible rfl)) ?_
    simp only [Act.put, zA, zB, zC]
    refine lint_end ?_
    go_wp2
    go_ret2
    exact ⟨_, _, rfl, f_s10, f_s14, Bw6⟩
theorem may_dec (l : List UInt8) (d : Nat) (hd : d < 12) : mayN (decV (numL l (32 * d)) d) = true := may_small _ d hd
theorem kdec_ok (d : Nat) (v1 : Value) (l1 : List UInt8) (w : World) (h1 : Bs w v1 l1) (hl : l1.length = 32 * d) (hd1 : 1 ≤ d) (hd2 : d < 12) : Calls Tryd.prog 42 #[.int .i64 (d : Int), v1] w fun e w' => e = .returned (.tuple #[.agg (arrOf 256 (pyF (decV (numL l1 (32 * d)) d))), .int .i64 0]) ∧ Below w.heap.size w w' := by
  have h := rDecode_ok d v1 l1 w h1 hl hd1 (by omega)
  rw [if_pos (may_dec l1 d hd2), if_pos (may_dec l1 d hd2)] at h
  exact h
def expN (d : Nat) (f : Nat → Nat) (k : Nat) : Nat := (f k % 2 ^ d * 3329 + 2 ^ (d - 1)) / 2 ^ d
theorem expN_lt (d : Nat) (f : Nat → Nat) (k : Nat) : expN d f k < 65536 := by
  unfold expN
  have h1 : 0 < 2 ^ d := Nat.pow_pos (by decide)
  have h2 : 2 ^ (d - 1) ≤ 2 ^ d := Nat.pow_le_pow_right (by decide) (Nat.sub_le _ _)
  have h3 := Nat.mod_lt (f k) h1
  generalize 2 ^ d = D at *
  generalize 2 ^ (d - 1) = D2 at *
  generalize f k % D = x at *
  exact Nat.lt_of_lt_of_le (Nat.div_lt_of_lt_mul (show x * 3329 + D2 < D * 3330 by omega)) (by decide)
set_option maxHeartbeats 4000000 in
set_option maxRecDepth 20000 in
theorem shrunk_any (d : Nat) (f : Nat → Nat) (w : World) (hf : ∀ i, f i < 65536) (hd1 : 1 ≤ d) (hd2 : d ≤ 11) : Calls Tryd.prog 32 #[.int .i64 (d : Int), .agg (arrOf 256 (pyF f))] w fun e w' => ∃ v, e = .returned v ∧ Bs w' v (encL (cmpN d f) d) ∧ Below w.heap.size w w' := by
  have Bw0 := Below.refl w.heap.size w
  have HGS : Hid (∀ wq : World, Below w.heap.size w wq → w.heap.size ≤ wq.heap.size) := Lib.hid fun wq h => h.size
  have Hf := Lib.hid hf
  have HD := Lib.hid (And.intro hd1 hd2)
  clear hf hd1 hd2
  go_enter Tryd.func32, Tryd.ntmps32
  go_wp2_with (first
    | (have hgo := Bw0; clear hgo
       refine wpList_box_row rfl 34 (.tmp 1) rfl 256 (pyF f) rfl ?_
       intro b_t3 w1 lk r_t3 kk
       have l_t3 := zrl HGS Bw0 lk
       have Bw1 := zbt HGS Bw0 kk
       clear Bw0 kk lk)
    | (have hgo := Bw1; clear hgo
       refine wpList_load_as rfl 34 (.tmp 3) rfl 256 (pyF f) arrP r_t3 rfl (by omega) (fun i hi => by rw [Nat.zero_add]) ?_
       have Bw2 := Bw1
       clear Bw1)
    | (have hgo := Bw2; clear hgo
       go_at_call 31
       refine (rCompress_ok f d _ Hf.out HD.out.1 HD.out.2).mono ?_
       rintro e w5 ⟨rfl, kk⟩
       replace r_t3 := zrb r_t3 kk
       have Bw3 := zbt HGS Bw2 kk
       clear Bw2 kk)
    | (have hgo := Bw3; clear hgo
       refine wpList_alloc_row rfl 34 rfl 256 (pyF fun _ => 0) zeroP ?_
       intro b_t5 w9 lk r_t5 kk
       have n_t3_t5 := zrn r_t3 lk
       have l_t5 := zrl HGS Bw3 lk
       replace r_t3 := zrb r_t3 kk
       have Bw4 := zbt HGS Bw3 kk
       clear Bw3 kk lk)
    | (have hgo := Bw4; clear hgo
       refine wpList_store_as rfl 34 (.tmp 5) (.tmp 13) rfl 256 (pyF (cmpN d f)) arrP r_t5 rfl rfl (by omega) (fun _ _ => rfl) (fun i hi => putN_whole hi) ?_
       intro w10 q gk
       replace r_t3 := gb_rowIs r_t3 gk n_t3_t5
       replace r_t5 := q
       have Bw5 := zbg HGS Bw4 gk l_t5
       clear Bw4 gk q)
    | (have hgo := Bw5; clear hgo
       refine wpList_load_as rfl 34 (.tmp 5) rfl 256 (pyF (cmpN d f)) arrP r_t5 rfl (by omega) (fun i hi => by rw [Nat.zero_add]) ?_
       have Bw6 := Bw5
       clear Bw5)
    | (have hgo := Bw6; clear hgo
       go_at_call 39
       refine (rEncode_ok (cmpN d f) d _ (lt16 (cmpN_lt d f HD.out.2)) HD.out.1 (Nat.le_succ_of_le HD.out.2)).mono ?_
       rintro e w14 ⟨v_s18, rfl, o_s18, kk⟩
       replace r_t3 := zrb r_t3 kk
       replace r_t5 := zrb r_t5 kk
       have Bw7 := zbt HGS Bw6 kk
       clear Bw6 kk
       have f_s18 := o_s18.bs
       clear o_s18))
  go_ret
  exact ⟨_, rfl, f_s18, Bw7⟩
set_option maxHeartbeats 4000000 in
set_option maxRecDepth 20000 in
theorem grown_any (d : Nat) (v1 : Value) (l1 : List UInt8) (w : World) (h1 : Bs w v1 l1) (hl : l1.length = 32 * d) (hd1 : 1 ≤ d) (hd2 : d < 12) : Calls Tryd.prog 29 #[.int .i64 (d : Int), v1] w fun e w' => e = .returned (.agg (arrOf 256 (pyF (expN d (decV (numL l1 (32 * d)) d))))) ∧ Below w.heap.size w w' := by
  have Bw0 := Below.refl w.heap.size w
  have HGS : Hid (∀ wq : World, Below w.heap.size w wq → w.heap.size ≤ wq.heap.size) := Lib.hid fun wq h => h.size
  have f_s1 := h1
  have HF_s1 := Lib.hid h1
  have HL := Lib.hid hl
  have HD := Lib.hid (And.intro hd1 hd2)
  clear h1 hl hd1 hd2
  go_enter Tryd.func29, Tryd.ntmps29
  go_wp2_with (first
    | (have hgo := Bw0; clear hgo
       refine wpList_alloc_row rfl 34 rfl 256 (pyF fun _ => 0) zeroP ?_
       intro b_t4 w1 lk r_t4 kk
       have l_t4 := zrl HGS Bw0 lk
       have a_s1_t4 := Bs.away f_s1 lk
       replace f_s1 := zfb f_s1 kk
       have Bw1 := zbt HGS Bw0 kk
       clear Bw0 kk lk)
    | (have hgo := Bw1; clear hgo
       go_at_call 42
       refine (kdec_ok d _ l1 _ f_s1 HL.out HD.out.1 HD.out.2).mono ?_
       rintro e w4 ⟨rfl, kk⟩
       replace r_t4 := zrb r_t4 kk
       replace f_s1 := zfb f_s1 kk
       have Bw2 := zbt HGS Bw1 kk
       clear Bw1 kk)
    | (have hgo := Bw2; clear hgo
       refine wpList_alloc_row rfl 34 rfl 256 (pyF fun _ => 0) zeroP ?_
       intro b_t5 w8 lk r_t5 kk
       have n_t4_t5 := zrn r_t4 lk
       have l_t5 := zrl HGS Bw2 lk
       have a_s1_t5 := Bs.away f_s1 lk
       replace r_t4 := zrb r_t4 kk
       replace f_s1 := zfb f_s1 kk
       have Bw3 := zbt HGS Bw2 kk
       clear Bw2 kk lk)
    | (have hgo := Bw3; clear hgo
       refine wpList_store_as rfl 34 (.tmp 5) (.tmp 13) rfl 256 (pyF (decV (numL l1 (32 * d)) d)) arrP r_t5 rfl rfl (by omega) (fun _ _ => rfl) (fun i hi => putN_whole hi) ?_
       intro w9 q gk
       replace r_t4 := gb_rowIs r_t4 gk n_t4_t5
       replace r_t5 := q
       have Bw4 := zbg HGS Bw3 gk l_t5
       replace f_s1 := gb_bs f_s1 gk a_s1_t5
       clear Bw3 gk q)
    | (have hgo := Bw4; clear hgo
       refine wpList_load_as rfl 34 (.tmp 5) rfl 256 (pyF (decV (numL l1 (32 * d)) d)) arrP r_t5 rfl (by omega) (fun i hi => by rw [Nat.zero_add]) ?_
       have Bw5 := Bw4
       clear Bw4)
    | (have hgo := Bw5; clear hgo
       go_at_call 50
       refine (rExpand_ok (decV (numL l1 (32 * d)) d) d _ (lt16 (fun i => Nat.lt_trans (Nat.lt_of_lt_of_le (decV_lt _ d i) (Nat.pow_le_pow_right (by decide) (show d ≤ 11 by have := HD.out.2; omega))) (by decide))) HD.out.1 (show d ≤ 11 by have := HD.out.2; omega)).mono ?_
       rintro e w13 ⟨rfl, kk⟩
       replace r_t4 := zrb r_t4 kk
       replace r_t5 := zrb r_t5 kk
       replace f_s1 := zfb f_s1 kk
       have Bw6 := zbt HGS Bw5 kk
       clear Bw5 kk)
    | (have hgo := Bw6; clear hgo
       refine wpList_alloc_row rfl 34 rfl 256 (pyF fun _ => 0) zeroP ?_
       intro b_t7 w17 lk r_t7 kk
       have n_t4_t7 := zrn r_t4 lk
       have n_t5_t7 := zrn r_t5 lk
       have l_t7 := zrl HGS Bw6 lk
       have a_s1_t7 := Bs.away f_s1 lk
       replace r_t4 := zrb r_t4 kk
       replace r_t5 := zrb r_t5 kk
       replace f_s1 := zfb f_s1 kk
       have Bw7 := zbt HGS Bw6 kk
       clear Bw6 kk lk)
    | (have hgo := Bw7; clear hgo
       refine wpList_store_as rfl 34 (.tmp 7) (.tmp 19) rfl 256 (pyF (expN d (decV (numL l1 (32 * d)) d))) arrP r_t7 rfl rfl (by omega) (fun _ _ => rfl) (fun i hi => putN_whole hi) ?_
       intro w18 q gk
       replace r_t4 := gb_rowIs r_t4 gk n_t4_t7
       replace r_t5 := gb_rowIs r_t5 gk n_t5_t7
       replace r_t7 := q
       have Bw8 := zbg HGS Bw7 gk l_t7
       replace f_s1 := gb_bs f_s1 gk a_s1_t7
       clear Bw7 gk q)
    | (have hgo := Bw8; clear hgo
       refine wpList_load_as rfl 34 (.tmp 7) rfl 256 (pyF (expN d (decV (numL l1 (32 * d)) d))) arrP r_t7 rfl (by omega) (fun i hi => by rw [Nat.zero_add]) ?_
       have Bw9 := Bw8
       clear Bw8)
    | (have hgo := Bw9; clear hgo
       refine wpList_store_as rfl 34 (.tmp 4) (.tmp 21) rfl 256 (pyF (expN d (decV (numL l1 (32 * d)) d))) arrP r_t4 rfl rfl (by omega) (fun _ _ => rfl) (fun i hi => putN_whole hi) ?_
       intro w21 q gk
       replace r_t5 := gb_rowIs r_t5 gk (Ne.symm n_t4_t5)
       replace r_t7 := gb_rowIs r_t7 gk (Ne.symm n_t4_t7)
       replace r_t4 := q
       have Bw10 := zbg HGS Bw9 gk l_t4
       replace f_s1 := gb_bs f_s1 gk a_s1_t4
       clear Bw9 gk q))
  exact ret_cell_as _ rfl arrP r_t4 rfl (by omega) (fun _ _ => rfl) rfl ⟨rfl, Bw10⟩
end Go.Proofs.YtflblaccfiigfabDoor

/- K-PKE of the program: public keys, generate, encrypt. -/
namespace Go.Proofs.YtflblaccfiigfabDoor
open Go.RowKit Go.Deep
set_option linter.unusedSimpArgs false
set_option linter.unusedVariables false

theorem wpList_load_atK {P : Program} {ops : Array Oper} {rest : List Oper} {o : Oper} {a : Act} {w : World} {Q : Exit → Act → World → Prop} (hgd : o.guard = none) (ty : TypeId) (x : Operand) (ho : o.op = .load ty x) {b m i : Nat} {t : TypeId} {f : Nat → Value} (v : Value) (hr : w.rowIs b t m f) (hx : a.eval x = .pointer (some ⟨b, i, none⟩)) (hi : i < m) (hv : f i = v)
    (hu : (P.underlying ty).map (fun d => match d with | .struct _ | .array _ _ => true | _ => false) = some false) (h : wpList P ops Q rest (a.put o.dst v) w) : wpList P ops Q (o :: rest) a w := by
  have hc := hr.cell hi
  rw [hv] at hc
  refine wpList_value hgd _ ?_ h
  rw [exec_mkOp, ho]
  exact exec_load_cell a.eval ty x o.type hx hu hc
/-- The cells of a public key: a row, a slice. -/
def pubF (f : Nat → Nat → Nat) (v : Value) : Nat → Value := fun i => if i < 768 then p3F f i else v
theorem pub_row (f : Nat → Nat → Nat) (v : Value) (i : Nat) (h : i < 768) : pubF f v (0 + i) = p3F f i := by
  rw [Nat.zero_add]
  exact if_pos h
theorem pub_at (f : Nat → Nat → Nat) (v : Value) : pubF f v 768 = v := if_neg (by decide)
theorem arrPub : IsArr Tryd.prog 39 769 := ⟨by kernel_rfl, by kernel_rfl⟩
theorem zeroPub : (Tryd.prog.info? 39).map (fun i => i.zero) = some (some (.agg (arrOf 769 (pubF (fun _ _ => 0) (.slice none 0 0))))) := by kernel_rfl
theorem builtPub0 : Tryd.prog.built 39 [] = some (arrOf 769 (pubF (fun _ _ => 0) (.slice none 0 0))) := by kernel_rfl
theorem partsPub : bparts Tryd.prog 39 = some (arrOf 769 (pubF (fun _ _ => 0) (.slice none 0 0)), [(0, 768), (768, 1)]) := by kernel_rfl
theorem builtPub1 (f : Nat → Nat → Nat) (v : Value) (hv : v.cells = #[v]) : Tryd.prog.built 39 [(0, .agg (arrOf 768 (p3F f))), (1, v)] = some (arrOf 769 (pubF f v)) := by
  rw [built_of partsPub, fill_row (off := 0) (k := 768) rfl (by decide), fill_one (off := 768) rfl hv (by decide), Instr.fill]
  refine congrArg some (arrOf_congr fun i hi => ?_)
  unfold putN pubF
  by_cases h : i < 768
  · rw [if_neg (by omega), if_pos (by omega), if_pos h, Nat.sub_zero]
  · rw [if_pos (by omega), if_neg h]
theorem builtPub (f : Nat → Nat → Nat) {w : World} {v : Value} {l : List UInt8} (h : Bs w v l) : Tryd.prog.built 39 [(0, .agg (arrOf 768 (p3F f))), (1, v)] = some (arrOf 769 (pubF f v)) := by
  obtain ⟨a, n, c, rfl, _⟩ := h.shape
  exact builtPub1 f _ rfl
theorem pub_one (f : Nat → Nat → Nat) {w : World} {v : Value} {l : List UInt8} (h : Bs w v l) (j : Nat) (_ : j < 769) : (pubF f v j).oneCell' = true := by
  obtain ⟨a, n, c, rfl, _⟩ := h.shape
  unfold pubF
  split
  · rfl
  · rfl
theorem pub_one0 (j : Nat) (_ : j < 769) : (pubF (fun _ _ => 0) (.slice none 0 0) j).oneCell' = true := by
  unfold pubF
  split
  · rfl
  · rfl
set_option maxHeartbeats 4000000 in
set_option maxRecDepth 20000 in
theorem readPublic_0 (v0 : Value) (l0 : List UInt8) (w : World) (h0 : Bs w v0 l0) (hl : ¬ l0.length = 1184) : Calls Tryd.prog 11 #[v0] w fun e w' => e = .returned (.tuple #[.agg (arrOf 769 (pubF (fun _ _ => 0) (.slice none 0 0))), .int .i64 1]) ∧ Below w.heap.size w w' := by
  have Bw0 := Below.refl w.heap.size w
  have HGS : Hid (∀ wq : World, Below w.heap.size w wq → w.heap.size ≤ wq.heap.size) := Lib.hid fun wq h => h.size
  obtain ⟨ad0, n0, c0, rfl, e0, y0, z0, hB0⟩ := h0.shape
  have q0 : ¬ (n0 : Int) = 1184 := by omega
  have f_s0 := hB0
  have HF_s0 := Lib.hid hB0
  clear h0 hB0 e0 hl
  go_enter Tryd.func11, Tryd.ntmps11
  go_wp2_with (first
    | (have hgo := Bw0; clear hgo
       refine wpList_alloc_row rfl 39 rfl 769 (pubF (fun _ _ => 0) (.slice none 0 0)) zeroPub ?_
       intro b_t2 w1 lk r_t2 kk
       have l_t2 := zrl HGS Bw0 lk
       have a_s0_t2 := Bs.away f_s0 lk
       replace f_s0 := zfb f_s0 kk
       have Bw1 := zbt HGS Bw0 kk
       clear Bw0 kk lk)
    | (have hgo := Bw1; clear hgo
       refine wpList_build_arr rfl 39 #[] rfl (arrOf 769 (pubF (fun _ _ => 0) (.slice none 0 0))) ?_ ?_
       · simp only [List.map_toArray, List.map_cons, List.map_nil]; exact builtPub0
       have Bw2 := Bw1
       clear Bw1)
    | (have hgo := Bw2; clear hgo
       refine wpList_store_as rfl 39 (.tmp 2) (.tmp 9) rfl 769 (pubF (fun _ _ => 0) (.slice none 0 0)) arrPub r_t2 rfl rfl (by omega) pub_one0 (fun i hi => putN_whole hi) ?_
       intro w7 q gk
       replace r_t2 := q
       have Bw3 := zbg HGS Bw2 gk l_t2
       replace f_s0 := gb_bs f_s0 gk a_s0_t2
       clear Bw2 gk q))
  exact ret_cell_as_tmp _ rfl arrPub r_t2 rfl rfl (by omega) (fun _ _ => rfl) rfl ⟨rfl, Bw3⟩
set_option maxHeartbeats 4000000 in
set_option maxRecDepth 20000 in
theorem readPublic_2 (v0 : Value) (l0 : List UInt8) (w : World) (h0 : Bs w v0 l0) (hl : l0.length = 1184) (ho : okR (l0.take 1152) 12 3 = true) : Calls Tryd.prog 11 #[v0] w fun e w' => ∃ v, e = .returned (.tuple #[.agg (arrOf 769 (pubF (rdR (l0.take 1152) 12) v)), .int .i64 0]) ∧ Bs w' v (l0.drop 1152) ∧ Below w.heap.size w w' := by
  have Bw0 := Below.refl w.heap.size w
  have HGS : Hid (∀ wq : World, Below w.heap.size w wq → w.heap.size ≤ wq.heap.size) := Lib.hid fun wq h => h.size
  obtain ⟨ad0, n0, c0, rfl, e0, y0, z0, hB0⟩ := h0.shape
  have d0 : n0 = 1184 := by omega
  subst d0
  have HL := Lib.hid hl
  have HO := Lib.hid ho
  have hcl : (l0.take 1152).length = 96 * 12 := by rw [List.length_take, hl]; decide
  have HR := Lib.hid fun v w h => kread_any 12 v (l0.take 1152) w h hcl (by decide) (by decide)
  have hE : rdE (l0.take 1152) 12 = 0 := if_pos ho
  rw [hE] at HR
  clear hE hcl
  obtain ⟨FR, hFR⟩ : ∃ f, f = rdR (l0.take 1152) 12 := ⟨_, rfl⟩
  rw [← hFR] at HR
  rw [← hFR]
  clear hFR
  obtain ⟨v_c, f_c, hrc⟩ := dropB hB0 1152 (by rw [hl]; decide)
  have HF_c := Lib.hid f_c
  have HRC := Lib.hid hrc
  clear hrc
  have f_s0 := hB0
  have HF_s0 := Lib.hid hB0
  clear h0 hB0 e0 hl ho
  go_enter Tryd.func11, Tryd.ntmps11
  go_wp2_with (first
    | (have hgo := Bw0; clear hgo
       refine wpList_alloc_row rfl 39 rfl 769 (pubF (fun _ _ => 0) (.slice none 0 0)) zeroPub ?_
       intro b_t2 w1 lk r_t2 kk
       have l_t2 := zrl HGS Bw0 lk
       have a_c_t2 := Bs.away f_c lk
       have a_s0_t2 := Bs.away f_s0 lk
       replace f_c := zfb f_c kk
       replace f_s0 := zfb f_s0 kk
       have Bw1 := zbt HGS Bw0 kk
       clear Bw0 kk lk)
    | (have hgo := Bw1; clear hgo
       obtain ⟨v_s12, f_s12, hr12⟩ := takeB f_s0 1152 (by rw [HL.out]; decide)
       refine wpList_value rfl _ (by rw [exec_mkOp]; exact hr12 _ _ _ _ _ rfl rfl) ?_
       clear hr12
       have Bw2 := Bw1
       clear Bw1)
    | (have hgo := Bw2; clear hgo
       go_at_call 23
       refine (HR.out _ _ f_s12).mono ?_
       rintro e w8 ⟨rfl, kk⟩
       replace r_t2 := zrb r_t2 kk
       replace f_c := zfb f_c kk
       replace f_s0 := zfb f_s0 kk
       replace f_s12 := zfb f_s12 kk
       have Bw3 := zbt HGS Bw2 kk
       clear Bw2 kk)
    | (have hgo := Bw3; clear hgo
       refine wpList_alloc_row rfl 36 rfl 768 (p3F fun _ _ => 0) zeroRow ?_
       intro b_t4 w12 lk r_t4 kk
       have n_t2_t4 := zrn r_t2 lk
       have l_t4 := zrl HGS Bw3 lk
       have a_c_t4 := Bs.away f_c lk
       have a_s0_t4 := Bs.away f_s0 lk
       have a_s12_t4 := Bs.away f_s12 lk
       replace r_t2 := zrb r_t2 kk
       replace f_c := zfb f_c kk
       replace f_s0 := zfb f_s0 kk
       replace f_s12 := zfb f_s12 kk
       have Bw4 := zbt HGS Bw3 kk
       clear Bw3 kk lk)
    | (have hgo := Bw4; clear hgo
       refine wpList_store_as rfl 36 (.tmp 4) (.tmp 14) rfl 768 (p3F FR) arrRow r_t4 rfl rfl (by omega) (fun _ _ => rfl) (fun i hi => putN_whole hi) ?_
       intro w13 q gk
       replace r_t2 := gb_rowIs r_t2 gk n_t2_t4
       replace r_t4 := q
       have Bw5 := zbg HGS Bw4 gk l_t4
       replace f_c := gb_bs f_c gk a_c_t4
       replace f_s0 := gb_bs f_s0 gk a_s0_t4
       replace f_s12 := gb_bs f_s12 gk a_s12_t4
       clear Bw4 gk q))
  have Bw6 := Bw5.drew
  replace r_t2 := World.rowIs.drew r_t2
  replace r_t4 := World.rowIs.drew r_t4
  replace f_c := Bs.drew f_c
  replace f_s0 := Bs.drew f_s0
  replace f_s12 := Bs.drew f_s12
  clear Bw5
  refine zpo [b_t2] (.rd 0 (.rd 1 (.rd 2 (.rd 3 .done)))) #[true, true, true, true, false, false] [4, 5] [none, some 3] [[], [0]] [(0, []), (1, []), (2, [1]), (3, [0, 2]), (4, [3, 0, 1, 2, 3]), (5, [4, 0, 1, 2, 3, 4])] 15 ?_
  refine zld (p3F FR) arrRow r_t4 (cont1 (Ne.symm n_t2_t4)) (fun i hi => by rw [Nat.zero_add]) rfl rfl rfl rfl rfl (by omega) ?_
  simp only [Act.put, zA, zB, zC]
  refine zmv (.slice ad0 1184 c0) rfl rfl rfl rfl rfl ?_
  simp only [Act.put, zA, zB, zC]
  refine lintz_pure 22 (Op.slice 22 (Operand.tmp 21) (some (Operand.const (Value.int IntKind.i64 1152))) none none) 22 (v_c) rfl rfl rfl rfl rfl (fun w0 hb => by exact HRC.out _ _ _ _ w0 rfl rfl) ?_
  simp only [Act.put, zA, zB, zC]
  refine lintz_pure 23 (Op.build 39 #[(0, Operand.tmp 20), (1, Operand.tmp 22)]) 39 (.agg (arrOf 769 (pubF FR v_c))) rfl rfl rfl rfl rfl (fun w0 hb => by refine exec_build_as _ _ _ ?_; simp only [List.map_toArray, List.map_cons, List.map_nil]; exact builtPub FR f_c) ?_
  simp only [Act.put, zA, zB, zC]
  refine lintz_leaf ?_
  refine po_start [.nil, .val ((.int .i64 0))] [⟨b_t2, 39, 769, (pubF (fun _ _ => 0) (.slice none 0 0)), 0, (pubF FR v_c)⟩] (fun i hi => by obtain rfl : i = 0 := by { have h9 : i < 1 := hi; omega }; exact r_t2) (fun HWF m gz wa p az hp hm hmp hcl hdn hE hJ hS hO => ?_) (fun gz wa hE hJ => ?_)
  · rcases (show p = 0 ∨ p = 1 by have h9 : p < 2 := hp; omega) with rfl | rfl
    · have e23 : az.eval (.tmp 23) = .agg (arrOf 769 (pubF FR v_c)) := hO 23 rfl
      exact po_storeOld 0 (.tmp 2) (.tmp 23) 39 b_t2 769 _ (by rw [hm]; exact hp) hmp hJ rfl (show 0 < 1 by decide) rfl rfl rfl rfl rfl (World.rowIs.lt r_t2) (by simp) (by kernel_rfl) po_ne1 hE rfl rfl rfl rfl rfl (hO 2 rfl) e23 arrPub (pub_one _ HF_c.out)
    · exact po_p _ HWF hJ hE rfl rfl rfl rfl rfl rfl rfl (x_assign rfl)
  · rw [putO_true _ _ _ _ _ rfl]
    simp only [putA, Nat.zero_add, Nat.reduceAdd]
    rw [hJ.tt 1 rfl]
    simp only [Act.put, zA, zB, zC]
    refine po_end ?_
    replace r_t2 : wa.rowIs b_t2 39 769 (pubF FR v_c) := hJ.old 0 (show 0 < 1 by decide) (show 0 < 2 by decide)
    replace r_t4 := Keep.row hE r_t4 (cont1 (Ne.symm n_t2_t4))
    clear f_s12
    have Bw7 := hE.below Bw6 (HGS.out _ Bw6) (keep_all1 l_t2)
    replace f_c := HF_c.out.below Bw7 (Nat.le_refl _)
    replace f_s0 := HF_s0.out.below Bw7 (Nat.le_refl _)
    clear Bw6 hE hJ 
    go_wp2
    exact ret_cell_as_tmp _ rfl arrPub r_t2 rfl rfl (by omega) (fun _ _ => rfl) rfl ⟨_, rfl, f_c, Bw7⟩
end Go.Proofs.YtflblaccfiigfabDoor

/- K-PKE of the program: generate, encrypt. -/
namespace Go.Proofs.YtflblaccfiigfabDoor
open Go.RowKit Go.Deep
set_option linter.unusedSimpArgs false
set_option linter.unusedVariables false

/-- The secret row, what is shown of it, and both keys, of 32 bytes. -/
def kS (l : List UInt8) (i : Nat) : Nat → Nat := nttN (noiR (gB [l, [3]]) 0 i)
def kO (l : List UInt8) (i : Nat) : Nat → Nat := nttN (noiR (gB [l, [3]]) 3 i)
def kT (l : List UInt8) (i : Nat) : Nat → Nat := sumN (inN (linR (gA [l, [3]]) i) (kS l)) (kO l i)
def kEk (l : List UInt8) : List UInt8 := wrL (kT l) 12 3 ++ gA [l, [3]]
def kHid (l : List UInt8) : List UInt8 := wrL (kS l) 12 3
theorem noi16 (l : List UInt8) (m i j : Nat) : noiR l m i j < 65536 := lt16 (noiR_lt l m i) j
theorem kcat_two (v : Value) (l m x : List UInt8) (w : World) (hv : Bss w v [l, m]) (hlen : l.length + m.length ≤ 2147483647) (hm : l ++ m = x) : Calls Tryd.prog 9 #[v] w fun e w' => ∃ v', e = .returned v' ∧ Bs w' v' x ∧ Below w.heap.size w w' := by
  subst hm
  have h := cat_any v [l, m] w hv (by simpa using hlen)
  refine h.mono ?_
  rintro e w' ⟨v', rfl, ho, kk⟩
  exact ⟨v', rfl, by simpa using ho.bs, kk⟩
theorem gA_len (L : List (List UInt8)) : (gA L).length = 32 := by
  unfold gA
  rw [List.length_take, spongeL_length]
  decide
set_option maxHeartbeats 4000000 in
set_option maxRecDepth 20000 in
theorem generate_any (v0 : Value) (l0 : List UInt8) (w : World) (hL : Laid3 w) (h0 : Bs w v0 l0) : Calls Tryd.prog 8 #[v0] w fun e w' => ∃ v1 v2, e = .returned (.tuple #[v1, v2]) ∧ Bs w' v1 (kEk l0) ∧ Bs w' v2 (kHid l0) ∧ Below w.heap.size w w' := by
  have Bw0 := Below.refl w.heap.size w
  have HGS : Hid (∀ wq : World, Below w.heap.size w wq → w.heap.size ≤ wq.heap.size) := Lib.hid fun wq h => h.size
  have f_s0 := h0
  have HF_s0 := Lib.hid h0
  have HT := Lib.hid hL
  obtain ⟨LA, hLA⟩ : ∃ L, L = gA [l0, [3]] := ⟨_, rfl⟩
  obtain ⟨LB, hLB⟩ : ∃ L, L = gB [l0, [3]] := ⟨_, rfl⟩
  have HG := Lib.hid fun v w h1 h2 => halves_any v [l0, [3]] w h1 h2
  rw [← hLA, ← hLB] at HG
  obtain ⟨FS, hFS⟩ : ∃ f, f = fun i => nttN (noiR LB 0 i) := ⟨_, rfl⟩
  obtain ⟨FO, hFO⟩ : ∃ f, f = fun i => nttN (noiR LB 3 i) := ⟨_, rfl⟩
  obtain ⟨FT, hFT⟩ : ∃ f, f = fun i => sumN (inN (linR LA i) FS) (FO i) := ⟨_, rfl⟩
  have HN1 := Lib.hid fun w => eachNTT_any (noiR LB 0) w (noi16 LB 0)
  have HN2 := Lib.hid fun w => eachNTT_any (noiR LB 3) w (noi16 LB 3)
  rw [← hFS] at HN1
  rw [← hFO] at HN2
  have HLS : Hid (∀ i j, FS i j < 65536) := Lib.hid (by rw [hFS]; exact fun i j => lt16 (nttN_lt _) j)
  have HLO : Hid (∀ i j, FO i j < 65536) := Lib.hid (by rw [hFO]; exact fun i j => lt16 (nttN_lt _) j)
  have HLT : Hid (∀ i j, FT i j < 65536) := Lib.hid (by rw [hFT]; exact fun i j => lt16 (sumN_lt _ _) j)
  have HBT := Lib.hid fun w => bothAdd_any (fun i => inN (linR LA i) FS) FO w (fun i j => lt16 (inN_lt _ _) j) HLO.out
  rw [← hFT] at HBT
  have HE1 : Hid (kEk l0 = wrL FT 12 3 ++ LA) := Lib.hid (by unfold kEk; rw [hFT, hFS, hFO, hLA, hLB]; rfl)
  have HE2 : Hid (kHid l0 = wrL FS 12 3) := Lib.hid (by unfold kHid; rw [hFS, hLB]; rfl)
  have HLL : Hid (LA.length = 32) := Lib.hid (by rw [hLA]; exact gA_len _)
  clear h0 hL hLA hLB hFS hFO hFT
  go_enter Tryd.func8, Tryd.ntmps8
  go_wp2_with (first
    | (have hgo := Bw0; clear hgo
       refine wpList_one rfl (.const (.int .u8 3)) rfl 3 rfl ?_
       intro v_s11 w4 f_s11 kk
       replace f_s0 := zfb f_s0 kk
       have Bw1 := zbt HGS Bw0 kk
       clear Bw0 kk)
    | (have hgo := Bw1; clear hgo
       refine wpList_rows2 rfl (.tmp 10) (.tmp 11) rfl f_s0 f_s11 rfl rfl ?_
       intro v_r12 w5 F_r12 kk
       replace f_s0 := zfb f_s0 kk
       replace f_s11 := zfb f_s11 kk
       have Bw2 := zbt HGS Bw1 kk
       clear Bw1 kk)
    | (have hgo := Bw2; clear hgo
       go_at_call 12
       refine (HG.out _ _ (HT.out.below Bw2 HT.out.size) F_r12).mono ?_
       rintro e w6 ⟨v_s13a, v_s13b, rfl, f_s13a, f_s13b, kk⟩
       replace f_s0 := zfb f_s0 kk
       replace f_s11 := zfb f_s11 kk
       have Bw3 := zbt HGS Bw2 kk
       clear Bw2 kk)
    | (have hgo := Bw3; clear hgo
       go_at_call 14
       refine (noises_any _ LB 0 _ (HT.out.below Bw3 HT.out.size) f_s13b (by decide)).mono ?_
       rintro e w13 ⟨rfl, kk⟩
       replace f_s0 := zfb f_s0 kk
       replace f_s11 := zfb f_s11 kk
       replace f_s13a := zfb f_s13a kk
       replace f_s13b := zfb f_s13b kk
       have Bw4 := zbt HGS Bw3 kk
       clear Bw3 kk)
    | (have hgo := Bw4; clear hgo
       go_at_call 15
       refine (HN1.out _).mono ?_
       rintro e w14 ⟨rfl, kk⟩
       replace f_s0 := zfb f_s0 kk
       replace f_s11 := zfb f_s11 kk
       replace f_s13a := zfb f_s13a kk
       replace f_s13b := zfb f_s13b kk
       have Bw5 := zbt HGS Bw4 kk
       clear Bw4 kk)
    | (have hgo := Bw5; clear hgo
       refine wpList_alloc_row rfl 36 rfl 768 (p3F fun _ _ => 0) zeroRow ?_
       intro b_t6 w15 lk r_t6 kk
       have l_t6 := zrl HGS Bw5 lk
       have a_s0_t6 := Bs.away f_s0 lk
       have a_s11_t6 := Bs.away f_s11 lk
       have a_s13a_t6 := Bs.away f_s13a lk
       have a_s13b_t6 := Bs.away f_s13b lk
       replace f_s0 := zfb f_s0 kk
       replace f_s11 := zfb f_s11 kk
       replace f_s13a := zfb f_s13a kk
       replace f_s13b := zfb f_s13b kk
       have Bw6 := zbt HGS Bw5 kk
       clear Bw5 kk lk)
    | (have hgo := Bw6; clear hgo
       refine wpList_store_as rfl 36 (.tmp 6) (.tmp 18) rfl 768 (p3F FS) arrRow r_t6 rfl rfl (by omega) (fun _ _ => rfl) (fun i hi => putN_whole hi) ?_
       intro w16 q gk
       replace r_t6 := q
       have Bw7 := zbg HGS Bw6 gk l_t6
       replace f_s0 := gb_bs f_s0 gk a_s0_t6
       replace f_s11 := gb_bs f_s11 gk a_s11_t6
       replace f_s13a := gb_bs f_s13a gk a_s13a_t6
       replace f_s13b := gb_bs f_s13b gk a_s13b_t6
       clear Bw6 gk q)
    | (have hgo := Bw7; clear hgo
       go_at_call 14
       refine (noises_any _ LB 3 _ (HT.out.below Bw7 HT.out.size) f_s13b (by decide)).mono ?_
       rintro e w18 ⟨rfl, kk⟩
       replace r_t6 := zrb r_t6 kk
       replace f_s0 := zfb f_s0 kk
       replace f_s11 := zfb f_s11 kk
       replace f_s13a := zfb f_s13a kk
       replace f_s13b := zfb f_s13b kk
       have Bw8 := zbt HGS Bw7 kk
       clear Bw7 kk)
    | (have hgo := Bw8; clear hgo
       go_at_call 15
       refine (HN2.out _).mono ?_
       rintro e w19 ⟨rfl, kk⟩
       replace r_t6 := zrb r_t6 kk
       replace f_s0 := zfb f_s0 kk
       replace f_s11 := zfb f_s11 kk
       replace f_s13a := zfb f_s13a kk
       replace f_s13b := zfb f_s13b kk
       have Bw9 := zbt HGS Bw8 kk
       clear Bw8 kk)
    | (have hgo := Bw9; clear hgo
       refine wpList_alloc_row rfl 36 rfl 768 (p3F fun _ _ => 0) zeroRow ?_
       intro b_t7 w20 lk r_t7 kk
       have n_t6_t7 := zrn r_t6 lk
       have l_t7 := zrl HGS Bw9 lk
       have a_s0_t7 := Bs.away f_s0 lk
       have a_s11_t7 := Bs.away f_s11 lk
       have a_s13a_t7 := Bs.away f_s13a lk
       have a_s13b_t7 := Bs.away f_s13b lk
       replace r_t6 := zrb r_t6 kk
       replace f_s0 := zfb f_s0 kk
       replace f_s11 := zfb f_s11 kk
       replace f_s13a := zfb f_s13a kk
       replace f_s13b := zfb f_s13b kk
       have Bw10 := zbt HGS Bw9 kk
       clear Bw9 kk lk)
    | (have hgo := Bw10; clear hgo
       refine wpList_store_as rfl 36 (.tmp 7) (.tmp 21) rfl 768 (p3F FO) arrRow r_t7 rfl rfl (by omega) (fun _ _ => rfl) (fun i hi => putN_whole hi) ?_
       intro w21 q gk
       replace r_t6 := gb_rowIs r_t6 gk n_t6_t7
       replace r_t7 := q
       have Bw11 := zbg HGS Bw10 gk l_t7
       replace f_s0 := gb_bs f_s0 gk a_s0_t7
       replace f_s11 := gb_bs f_s11 gk a_s11_t7
       replace f_s13a := gb_bs f_s13a gk a_s13a_t7
       replace f_s13b := gb_bs f_s13b gk a_s13b_t7
       clear Bw10 gk q))
  go_wp2
  have Bw12 := Bw11.drew
  replace r_t6 := World.rowIs.drew r_t6
  replace r_t7 := World.rowIs.drew r_t7
  replace f_s0 := Bs.drew f_s0
  replace f_s11 := Bs.drew f_s11
  replace f_s13a := Bs.drew f_s13a
  replace f_s13b := Bs.drew f_s13b
  clear Bw11
  refine zpo [] (.rd 0 (.rd 1 (.rd 2 (.rd 4 .done)))) #[true, true, true, false, true, false, false, false] [3, 5, 6, 7] [some 25, some 27, some 8, none] [[], [0], [], [0, 1, 2]] [(0, []), (1, []), (2, [1]), (3, [0, 2]), (4, []), (5, [3, 4, 3]), (6, []), (7, [6, 5, 5, 0, 1, 2, 3, 4, 5, 6])] 23 ?_
  refine zld (p3F FS) arrRow r_t6 rfl (fun i hi => by rw [Nat.zero_add]) rfl rfl rfl rfl rfl (by omega) ?_
  simp only [Act.put, zA, zB, zC]
  refine zmv (v_s13a) rfl rfl rfl rfl rfl ?_
  simp only [Act.put, zA, zB, zC]
  refine lintz_pure 24 (Op.makeFunc (Fn.func 18) #[Operand.tmp 23] #[]) 49 (.func (.func 18) #[v_s13a] #[]) rfl rfl rfl rfl rfl (fun w0 hb => by unfold mkOp; go_simp; all_goals (with_reducible rfl)) ?_
  simp only [Act.put, zA, zB, zC]
  refine zld (p3F FO) arrRow r_t7 rfl (fun i hi => by rw [Nat.zero_add]) rfl rfl rfl rfl rfl (by omega) ?_
  simp only [Act.put, zA, zB, zC]
  refine lintz_leaf ?_
  refine po_start [.val (.agg (arrOf 768 (p3F (fun i => inN (linR LA i) FS)))), .val (.agg (arrOf 768 (p3F FT))), .row 36 768 (p3F fun _ _ => 0) 3 (p3F FT), .nil] [] (fun i hi => absurd hi (Nat.not_lt_zero _)) (fun HWF m gz wa p az hp hm hmp hcl hdn hE hJ hS hO => ?_) (fun gz wa hE hJ => ?_)
  · rcases (show p = 0 ∨ p = 1 ∨ p = 2 ∨ p = 3 by have h9 : p < 4 := hp; omega) with rfl | rfl | rfl | rfl
    · have e22 : az.eval (.tmp 22) = .agg (arrOf 768 (p3F FS)) := hO 22 rfl
      have e24 : az.eval (.tmp 24) = .func (.func 18) #[v_s13a] #[] := hO 24 rfl
      exact po_k HWF hJ hE (thruLine_any v_s13a LA FS _ (HT.out.below (hE.below Bw12 (HGS.out _ Bw12) rfl) HT.out.size) (Bs.below f_s13a (Keep.nil hE) (Nat.le_refl _)) HLS.out) rfl rfl rfl rfl rfl rfl (ar2 e22 e24)
    · have e26 : az.eval (.tmp 26) = .agg (arrOf 768 (p3F FO)) := hO 26 rfl
      exact po_k HWF hJ hE (HBT.out _) rfl rfl rfl rfl rfl rfl (ar3 (po_e hS hdn hJ 0 25 rfl rfl rfl rfl) e26 rfl)
    · exact po_alloc 8 _ 36 768 (p3F fun _ _ => 0) _ _ HWF hJ rfl (po_notyet hcl hmp (by rw [hm]; exact hp) (by decide)) hE rfl rfl rfl rfl rfl rfl zeroRow
    · exact po_sr 2 hm hp hmp hdn hJ hE rfl rfl rfl rfl rfl rfl rfl rfl (po_e0 hS hdn 2 8 rfl rfl rfl) (po_e hS hdn hJ 1 27 rfl rfl rfl rfl) arrRow (fun _ _ => rfl)
  · obtain ⟨b_t8, p_t8, lk_t8, r_t8, d_t8⟩ := hJ.row 2 (by decide) rfl (by decide)
    rw [putO_true _ _ _ _ _ rfl]
    simp only [putA, Nat.zero_add, Nat.reduceAdd]
    rw [hJ.tt 0 rfl, hJ.tt 1 rfl, p_t8]
    simp only [Act.put, zA, zB, zC]
    refine po_end ?_
    have n_t6_t8 := zrn r_t6 lk_t8
    have n_t7_t8 := zrn r_t7 lk_t8
    have l_t8 := zrl HGS Bw12 lk_t8
    have a_s0_t8 := Bs.away f_s0 lk_t8
    have a_s11_t8 := Bs.away f_s11 lk_t8
    have a_s13a_t8 := Bs.away f_s13a lk_t8
    have a_s13b_t8 := Bs.away f_s13b lk_t8
    replace r_t6 := Keep.row hE r_t6 rfl
    replace r_t7 := Keep.row hE r_t7 rfl
    replace f_s0 := Bs.below f_s0 (Keep.nil hE) (Nat.le_refl _)
    replace f_s11 := Bs.below f_s11 (Keep.nil hE) (Nat.le_refl _)
    replace f_s13a := Bs.below f_s13a (Keep.nil hE) (Nat.le_refl _)
    replace f_s13b := Bs.below f_s13b (Keep.nil hE) (Nat.le_refl _)
    have Bw13 := hE.below Bw12 (HGS.out _ Bw12) rfl
    clear Bw12 hE hJ p_t8 lk_t8 d_t8
    go_wp2
    have Bw14 := Bw13.drew
    replace r_t6 := World.rowIs.drew r_t6
    replace r_t7 := World.rowIs.drew r_t7
    replace r_t8 := World.rowIs.drew r_t8
    replace f_s0 := Bs.drew f_s0
    replace f_s11 := Bs.drew f_s11
    replace f_s13a := Bs.drew f_s13a
    replace f_s13b := Bs.drew f_s13b
    clear Bw13
    refine wp_region_lint (.rd 0 (.rd 2 (.rd 5 (.wr 1 (.wr 3 (.wr 4 (.wr 6 (.rd 7 (.rd 8 .done))))))))) (by kernel_rfl) (by kernel_rfl) (by decide) (by kernel_rfl) (fun d _ _ _ _ h => by cases d <;> exact h) ?_
    refine lint_pure 28 (Op.load 36 (Operand.tmp 8)) 36 (.agg (arrOf 768 (p3F FT))) rfl rfl rfl rfl rfl (fun w0 hb0 => by exact exec_load_as _ _ _ _ (p3F FT) rfl arrRow (World.rowIs.of_block r_t8 (hb0.block _ (World.rowIs.lt r_t8))) (by omega) (fun i hi => by rw [Nat.zero_add])) ?_
    simp only [Act.put, zA, zB, zC]
    refine lint_pure 30 (Op.move (Operand.tmp 4)) 22 (v_s13a) rfl rfl rfl rfl rfl (fun w0 hb0 => by unfold mkOp; go_simp; all_goals (with_reducible rfl)) ?_
    simp only [Act.put, zA, zB, zC]
    refine lint_pure 33 (Op.load 36 (Operand.tmp 6)) 36 (.agg (arrOf 768 (p3F FS))) rfl rfl rfl rfl rfl (fun w0 hb0 => by exact exec_load_as _ _ _ _ (p3F FS) rfl arrRow (World.rowIs.of_block r_t6 (hb0.block _ (World.rowIs.lt r_t6))) (by omega) (fun i hi => by rw [Nat.zero_add])) ?_
    simp only [Act.put, zA, zB, zC]
    refine stp_fn 29 21 #[Operand.tmp 28, Operand.const (Value.int IntKind.i64 12)] #[36, 3] _ (written_any FT 12 _ HLT.out (by decide) (by decide)) rfl rfl rfl rfl Tryd.func21 (by kernel_rfl) (by kernel_rfl) (by go_simp) ?_
    rintro e w22 ⟨v_s29, rfl, o_s29, kk⟩
    refine ⟨_, rfl, kk, ?_⟩
    replace r_t6 := zrb r_t6 kk
    replace r_t7 := zrb r_t7 kk
    replace r_t8 := zrb r_t8 kk
    replace f_s0 := zfb f_s0 kk
    replace f_s11 := zfb f_s11 kk
    replace f_s13a := zfb f_s13a kk
    replace f_s13b := zfb f_s13b kk
    have Bw15 := zbt HGS Bw14 kk
    clear Bw14 kk
    have f_s29 := o_s29.bs
    clear o_s29
    simp only [Act.put, zA, zB, zC]
    refine stp_rows2 31 (.tmp 29) (.tmp 30) 53 rfl rfl rfl rfl rfl f_s29 f_s13a rfl rfl ?_
    intro w23 v_r31 F_r31 kk
    replace r_t6 := zrb r_t6 kk
    replace r_t7 := zrb r_t7 kk
    replace r_t8 := zrb r_t8 kk
    replace f_s0 := zfb f_s0 kk
    replace f_s11 := zfb f_s11 kk
    replace f_s13a := zfb f_s13a kk
    replace f_s13b := zfb f_s13b kk
    replace f_s29 := zfb f_s29 kk
    have Bw16 := zbt HGS Bw15 kk
    clear Bw15 kk
    simp only [Act.put, zA, zB, zC]
    refine stp_fn 32 9 #[Operand.tmp 31] #[53] _ (kcat_two _ (wrL FT 12 3) LA (kEk l0) _ F_r31 (by have := HLL.out; rw [wrL_len]; omega) HE1.out.symm) rfl rfl rfl rfl Tryd.func9 (by kernel_rfl) (by kernel_rfl) (by go_simp) ?_
    rintro e w24 ⟨v_s32, rfl, f_s32, kk⟩
    refine ⟨_, rfl, kk, ?_⟩
    replace r_t6 := zrb r_t6 kk
    replace r_t7 := zrb r_t7 kk
    replace r_t8 := zrb r_t8 kk
    replace f_s0 := zfb f_s0 kk
    replace f_s11 := zfb f_s11 kk
    replace f_s13a := zfb f_s13a kk
    replace f_s13b := zfb f_s13b kk
    replace f_s29 := zfb f_s29 kk
    replace F_r31 := Bss.below F_r31 kk (Nat.le_refl _)
    have Bw17 := zbt HGS Bw16 kk
    clear Bw16 kk
    simp only [Act.put, zA, zB, zC]
    refine stp_fn 34 21 #[Operand.tmp 33, Operand.const (Value.int IntKind.i64 12)] #[36, 3] _ (written_any FS 12 _ HLS.out (by decide) (by decide)) rfl rfl rfl rfl Tryd.func21 (by kernel_rfl) (by kernel_rfl) (by go_simp) ?_
    rintro e w25 ⟨v_s34, rfl, o_s34, kk⟩
    refine ⟨_, rfl, kk, ?_⟩
    replace r_t6 := zrb r_t6 kk
    replace r_t7 := zrb r_t7 kk
    replace r_t8 := zrb r_t8 kk
    replace f_s0 := zfb f_s0 kk
    replace f_s11 := zfb f_s11 kk
    replace f_s13a := zfb f_s13a kk
    replace f_s13b := zfb f_s13b kk
    replace f_s29 := zfb f_s29 kk
    replace f_s32 := zfb f_s32 kk
    replace F_r31 := Bss.below F_r31 kk (Nat.le_refl _)
    have Bw18 := zbt HGS Bw17 kk
    clear Bw17 kk
    have f_s34 := o_s34.bs
    clear o_s34
    simp only [Act.put, zA, zB, zC]
    refine lint_pure 2 (Op.assign (Operand.tmp 32)) 22 (v_s32) rfl rfl rfl rfl rfl (fun w0 hb0 => by unfold mkOp; go_simp; all_goals (with_reducible rfl)) ?_
    simp only [Act.put, zA, zB, zC]
    refine lint_pure 3 (Op.assign (Operand.tmp 34)) 22 (v_s34) rfl rfl rfl rfl rfl (fun w0 hb0 => by unfold mkOp; go_simp; all_goals (with_reducible rfl)) ?_
    simp only [Act.put, zA, zB, zC]
    refine lint_end ?_
    go_wp2
    go_ret2
    exact ⟨_, _, rfl, f_s32, by rw [HE2.out]; exact f_s34, Bw18⟩
end Go.Proofs.YtflblaccfiigfabDoor

/- K-PKE of the program: encrypt. -/
namespace Go.Proofs.YtflblaccfiigfabDoor
open Go.RowKit Go.Deep
set_option linter.unusedSimpArgs false
set_option linter.unusedVariables false

/-- A ciphertext of a public row F, the matrix's seed R, a text M and what the noise is drawn of. -/
def cY (r : List UInt8) (i : Nat) : Nat → Nat := nttN (noiR r 0 i)
def cU (R r : List UInt8) (i : Nat) : Nat → Nat := sumN (invN (inN (colR R i) (cY r))) (noiR r 3 i)
def cV (F : Nat → Nat → Nat) (M r : List UInt8) : Nat → Nat := sumN (sumN (invN (inN F (cY r))) (noiR r 6 0)) (expN 1 (decV (numL M (32 * 1)) 1))
def ctL (F : Nat → Nat → Nat) (R M r : List UInt8) : List UInt8 := wrL (fun i => cmpN 10 (cU R r i)) 10 3 ++ encL (cmpN 4 (cV F M r)) 4
theorem ctL_len (F : Nat → Nat → Nat) (R M r : List UInt8) : (ctL F R M r).length = 1088 := by
  unfold ctL
  rw [List.length_append, wrL_len, encL_len]
set_option maxHeartbeats 4000000 in
set_option maxRecDepth 20000 in
theorem encrypt_any (F : Nat → Nat → Nat) (v v1 v2 : Value) (R M r : List UInt8) (w : World) (hL : Laid3 w) (hF : ∀ i j, F i j < 65536) (h0 : Bs w v R) (h1 : Bs w v1 M) (hM : M.length = 32 * 1) (h2 : Bs w v2 r) : Calls Tryd.prog 13 #[.agg (arrOf 769 (pubF F v)), v1, v2] w fun e w' => ∃ e', e = .returned e' ∧ Bs w' e' (ctL F R M r) ∧ Below w.heap.size w w' := by
  have Bw0 := Below.refl w.heap.size w
  have HGS : Hid (∀ wq : World, Below w.heap.size w wq → w.heap.size ≤ wq.heap.size) := Lib.hid fun wq h => h.size
  have f_p := h0
  have HF_p := Lib.hid h0
  have f_s1 := h1
  have HF_s1 := Lib.hid h1
  have f_s2 := h2
  have HF_s2 := Lib.hid h2
  have HT := Lib.hid hL
  have HM := Lib.hid hM
  have HF := Lib.hid hF
  obtain ⟨FY, hFY⟩ : ∃ f, f = fun i => nttN (noiR r 0 i) := ⟨_, rfl⟩
  have HLY : Hid (∀ i j, FY i j < 65536) := Lib.hid (by rw [hFY]; exact fun i j => lt16 (nttN_lt _) j)
  have HN1 := Lib.hid fun w => eachNTT_any (noiR r 0) w (noi16 r 0)
  rw [← hFY] at HN1
  obtain ⟨FW, hFW⟩ : ∃ f, f = fun i => inN (colR R i) FY := ⟨_, rfl⟩
  have HTC := Lib.hid fun v0 w hL h0 => thruCol_any v0 R FY w hL h0 HLY.out
  rw [← hFW] at HTC
  have HLW : Hid (∀ i j, FW i j < 65536) := Lib.hid (by rw [hFW]; exact fun i j => lt16 (inN_lt _ _) j)
  obtain ⟨FI, hFI⟩ : ∃ f, f = fun i => invN (FW i) := ⟨_, rfl⟩
  have HEI := Lib.hid fun w => eachInv_any FW w HLW.out
  rw [← hFI] at HEI
  have HLI : Hid (∀ i j, FI i j < 65536) := Lib.hid (by rw [hFI]; exact fun i j => lt16 (invN_lt _) j)
  obtain ⟨FU, hFU⟩ : ∃ f, f = fun i => sumN (FI i) (noiR r 3 i) := ⟨_, rfl⟩
  have HBA := Lib.hid fun w => bothAdd_any FI (noiR r 3) w HLI.out (noi16 r 3)
  rw [← hFU] at HBA
  have HLU : Hid (∀ i j, FU i j < 65536) := Lib.hid (by rw [hFU]; exact fun i j => lt16 (sumN_lt _ _) j)
  obtain ⟨FC, hFC⟩ : ∃ f, f = fun i => cmpN 10 (FU i) := ⟨_, rfl⟩
  have HSC := Lib.hid fun w => scaledC_any FU 10 w HLU.out (by decide) (by decide)
  rw [← hFC] at HSC
  have HLC : Hid (∀ i j, FC i j < 65536) := Lib.hid (by rw [hFC]; exact fun i j => lt16 (cmpN_lt 10 _ (by decide)) j)
  obtain ⟨PX, hPX⟩ : ∃ f, f = inN F FY := ⟨_, rfl⟩
  have HIN := Lib.hid fun w => inner_any F FY w HF.out HLY.out
  rw [← hPX] at HIN
  have HLX : Hid (∀ j, PX j < 65536) := Lib.hid (by rw [hPX]; exact lt16 (inN_lt _ _))
  obtain ⟨PN, hPN⟩ : ∃ f, f = noiR r 6 0 := ⟨_, rfl⟩
  have HNO : Hid (∀ v W, Laid3 W → Bs W v r → Calls Tryd.prog 28 #[v, .int .u8 6] W fun e w' => e = .returned (.agg (arrOf 256 (pyF PN))) ∧ Below W.heap.size W w') := Lib.hid fun v W h1 h2 => by
    rw [hPN]
    exact rNoise_any v r (UInt8.ofNat 6) W h1 h2
  have HLN : Hid (∀ j, PN j < 65536) := Lib.hid (by rw [hPN]; exact noi16 r 6 0)
  obtain ⟨PG, hPG⟩ : ∃ f, f = expN 1 (decV (numL M (32 * 1)) 1) := ⟨_, rfl⟩
  have HGR := Lib.hid fun v w h => grown_any 1 v M w h HM.out (by decide) (by decide)
  rw [← hPG] at HGR
  have HLG : Hid (∀ j, PG j < 65536) := Lib.hid (by rw [hPG]; exact expN_lt _ _)
  obtain ⟨PV, hPV⟩ : ∃ f, f = sumN (sumN (invN PX) PN) PG := ⟨_, rfl⟩
  have HA1 := Lib.hid fun w => pAdd_any (invN PX) PN w (lt16 (invN_lt _)) HLN.out
  have HA2 := Lib.hid fun w => pAdd_any (sumN (invN PX) PN) PG w (lt16 (sumN_lt _ _)) HLG.out
  rw [← hPV] at HA2
  have HLV : Hid (∀ j, PV j < 65536) := Lib.hid (by rw [hPV]; exact lt16 (sumN_lt _ _))
  have HIV := Lib.hid fun w => rInverse_any PX w HLX.out
  have HE : Hid (wrL FC 10 3 ++ encL (cmpN 4 PV) 4 = ctL F R M r) := Lib.hid (by unfold ctL cU cV cY; rw [hFC, hFU, hFI, hFW, hPV, hPX, hPN, hPG, hFY])
  clear h0 h1 h2 hL hM hF hFY hFW hFI hFU hFC hPX hPN hPG hPV
  go_enter Tryd.func13, Tryd.ntmps13
  go_wp2_with (first
    | (have hgo := Bw0; clear hgo
       refine wpList_box_row rfl 39 (.tmp 0) rfl 769 (pubF F v) rfl ?_
       intro b_t3 w1 lk r_t3 kk
       have l_t3 := zrl HGS Bw0 lk
       have a_s1_t3 := Bs.away f_s1 lk
       have a_s2_t3 := Bs.away f_s2 lk
       have a_p_t3 := Bs.away f_p lk
       replace f_s1 := zfb f_s1 kk
       replace f_s2 := zfb f_s2 kk
       replace f_p := zfb f_p kk
       have Bw1 := zbt HGS Bw0 kk
       clear Bw0 kk lk)
    | (have hgo := Bw1; clear hgo
       go_at_call 14
       refine (noises_any _ r 0 _ (HT.out.below Bw1 HT.out.size) f_s2 (by decide)).mono ?_
       rintro e w4 ⟨rfl, kk⟩
       replace r_t3 := zrb r_t3 kk
       replace f_s1 := zfb f_s1 kk
       replace f_s2 := zfb f_s2 kk
       replace f_p := zfb f_p kk
       have Bw2 := zbt HGS Bw1 kk
       clear Bw1 kk)
    | (have hgo := Bw2; clear hgo
       go_at_call 15
       refine (HN1.out _).mono ?_
       rintro e w5 ⟨rfl, kk⟩
       replace r_t3 := zrb r_t3 kk
       replace f_s1 := zfb f_s1 kk
       replace f_s2 := zfb f_s2 kk
       replace f_p := zfb f_p kk
       have Bw3 := zbt HGS Bw2 kk
       clear Bw2 kk)
    | (have hgo := Bw3; clear hgo
       refine wpList_alloc_row rfl 36 rfl 768 (p3F fun _ _ => 0) zeroRow ?_
       intro b_t7 w6 lk r_t7 kk
       have n_t3_t7 := zrn r_t3 lk
       have l_t7 := zrl HGS Bw3 lk
       have a_s1_t7 := Bs.away f_s1 lk
       have a_s2_t7 := Bs.away f_s2 lk
       have a_p_t7 := Bs.away f_p lk
       replace r_t3 := zrb r_t3 kk
       replace f_s1 := zfb f_s1 kk
       replace f_s2 := zfb f_s2 kk
       replace f_p := zfb f_p kk
       have Bw4 := zbt HGS Bw3 kk
       clear Bw3 kk lk)
    | (have hgo := Bw4; clear hgo
       refine wpList_store_as rfl 36 (.tmp 7) (.tmp 12) rfl 768 (p3F FY) arrRow r_t7 rfl rfl (by omega) (fun _ _ => rfl) (fun i hi => putN_whole hi) ?_
       intro w7 q gk
       replace r_t3 := gb_rowIs r_t3 gk n_t3_t7
       replace r_t7 := q
       have Bw5 := zbg HGS Bw4 gk l_t7
       replace f_s1 := gb_bs f_s1 gk a_s1_t7
       replace f_s2 := gb_bs f_s2 gk a_s2_t7
       replace f_p := gb_bs f_p gk a_p_t7
       clear Bw4 gk q)
    | (have hgo := Bw5; clear hgo
       refine wpList_load_as rfl 36 (.tmp 7) rfl 768 (p3F FY) arrRow r_t7 rfl (by omega) (fun i hi => by rw [Nat.zero_add]) ?_
       have Bw6 := Bw5
       clear Bw5)
    | (have hgo := Bw6; clear hgo
       refine wpList_load_atK rfl 37 (.tmp 14) rfl (v) (i := 768) r_t3 rfl (by omega) (pub_at _ _) (by kernel_rfl) ?_
       have Bw7 := Bw6
       clear Bw6)
    | (have hgo := Bw7; clear hgo
       go_at_call 17
       refine (HTC.out _ _ (HT.out.below Bw7 HT.out.size) f_p).mono ?_
       rintro e w12 ⟨rfl, kk⟩
       replace r_t3 := zrb r_t3 kk
       replace r_t7 := zrb r_t7 kk
       replace f_s1 := zfb f_s1 kk
       replace f_s2 := zfb f_s2 kk
       replace f_p := zfb f_p kk
       have Bw8 := zbt HGS Bw7 kk
       clear Bw7 kk)
    | (have hgo := Bw8; clear hgo
       go_at_call 15
       refine (HEI.out _).mono ?_
       rintro e w13 ⟨rfl, kk⟩
       replace r_t3 := zrb r_t3 kk
       replace r_t7 := zrb r_t7 kk
       replace f_s1 := zfb f_s1 kk
       replace f_s2 := zfb f_s2 kk
       replace f_p := zfb f_p kk
       have Bw9 := zbt HGS Bw8 kk
       clear Bw8 kk)
    | (have hgo := Bw9; clear hgo
       go_at_call 14
       refine (noises_any _ r 3 _ (HT.out.below Bw9 HT.out.size) f_s2 (by decide)).mono ?_
       rintro e w15 ⟨rfl, kk⟩
       replace r_t3 := zrb r_t3 kk
       replace r_t7 := zrb r_t7 kk
       replace f_s1 := zfb f_s1 kk
       replace f_s2 := zfb f_s2 kk
       replace f_p := zfb f_p kk
       have Bw10 := zbt HGS Bw9 kk
       clear Bw9 kk)
    | (have hgo := Bw10; clear hgo
       go_at_call 19
       refine (HBA.out _).mono ?_
       rintro e w16 ⟨rfl, kk⟩
       replace r_t3 := zrb r_t3 kk
       replace r_t7 := zrb r_t7 kk
       replace f_s1 := zfb f_s1 kk
       replace f_s2 := zfb f_s2 kk
       replace f_p := zfb f_p kk
       have Bw11 := zbt HGS Bw10 kk
       clear Bw10 kk)
    | (have hgo := Bw11; clear hgo
       refine wpList_alloc_row rfl 36 rfl 768 (p3F fun _ _ => 0) zeroRow ?_
       intro b_t8 w17 lk r_t8 kk
       have n_t3_t8 := zrn r_t3 lk
       have n_t7_t8 := zrn r_t7 lk
       have l_t8 := zrl HGS Bw11 lk
       have a_s1_t8 := Bs.away f_s1 lk
       have a_s2_t8 := Bs.away f_s2 lk
       have a_p_t8 := Bs.away f_p lk
       replace r_t3 := zrb r_t3 kk
       replace r_t7 := zrb r_t7 kk
       replace f_s1 := zfb f_s1 kk
       replace f_s2 := zfb f_s2 kk
       replace f_p := zfb f_p kk
       have Bw12 := zbt HGS Bw11 kk
       clear Bw11 kk lk)
    | (have hgo := Bw12; clear hgo
       refine wpList_store_as rfl 36 (.tmp 8) (.tmp 21) rfl 768 (p3F FU) arrRow r_t8 rfl rfl (by omega) (fun _ _ => rfl) (fun i hi => putN_whole hi) ?_
       intro w18 q gk
       replace r_t3 := gb_rowIs r_t3 gk n_t3_t8
       replace r_t7 := gb_rowIs r_t7 gk n_t7_t8
       replace r_t8 := q
       have Bw13 := zbg HGS Bw12 gk l_t8
       replace f_s1 := gb_bs f_s1 gk a_s1_t8
       replace f_s2 := gb_bs f_s2 gk a_s2_t8
       replace f_p := gb_bs f_p gk a_p_t8
       clear Bw12 gk q)
    | (have hgo := Bw13; clear hgo
       refine wpList_load_as rfl 36 (.tmp 22) rfl 768 (p3F F) arrRow r_t3 rfl (by omega) (fun i hi => pub_row _ _ i hi) ?_
       have Bw14 := Bw13
       clear Bw13)
    | (have hgo := Bw14; clear hgo
       refine wpList_load_as rfl 36 (.tmp 7) rfl 768 (p3F FY) arrRow r_t7 rfl (by omega) (fun i hi => by rw [Nat.zero_add]) ?_
       have Bw15 := Bw14
       clear Bw14)
    | (have hgo := Bw15; clear hgo
       go_at_call 27
       refine (HIN.out _).mono ?_
       rintro e w22 ⟨rfl, kk⟩
       replace r_t3 := zrb r_t3 kk
       replace r_t7 := zrb r_t7 kk
       replace r_t8 := zrb r_t8 kk
       replace f_s1 := zfb f_s1 kk
       replace f_s2 := zfb f_s2 kk
       replace f_p := zfb f_p kk
       have Bw16 := zbt HGS Bw15 kk
       clear Bw15 kk)
    | (have hgo := Bw16; clear hgo
       go_at_call 26
       refine (HIV.out _).mono ?_
       rintro e w23 ⟨rfl, kk⟩
       replace r_t3 := zrb r_t3 kk
       replace r_t7 := zrb r_t7 kk
       replace r_t8 := zrb r_t8 kk
       replace f_s1 := zfb f_s1 kk
       replace f_s2 := zfb f_s2 kk
       replace f_p := zfb f_p kk
       have Bw17 := zbt HGS Bw16 kk
       clear Bw16 kk)
    | (have hgo := Bw17; clear hgo
       go_at_call 28
       refine (HNO.out _ _ (HT.out.below Bw17 HT.out.size) f_s2).mono ?_
       rintro e w25 ⟨rfl, kk⟩
       replace r_t3 := zrb r_t3 kk
       replace r_t7 := zrb r_t7 kk
       replace r_t8 := zrb r_t8 kk
       replace f_s1 := zfb f_s1 kk
       replace f_s2 := zfb f_s2 kk
       replace f_p := zfb f_p kk
       have Bw18 := zbt HGS Bw17 kk
       clear Bw17 kk)
    | (have hgo := Bw18; clear hgo
       go_at_call 20
       refine (HA1.out _).mono ?_
       rintro e w26 ⟨rfl, kk⟩
       replace r_t3 := zrb r_t3 kk
       replace r_t7 := zrb r_t7 kk
       replace r_t8 := zrb r_t8 kk
       replace f_s1 := zfb f_s1 kk
       replace f_s2 := zfb f_s2 kk
       replace f_p := zfb f_p kk
       have Bw19 := zbt HGS Bw18 kk
       clear Bw18 kk)
    | (have hgo := Bw19; clear hgo
       go_at_call 29
       refine (HGR.out _ _ f_s1).mono ?_
       rintro e w28 ⟨rfl, kk⟩
       replace r_t3 := zrb r_t3 kk
       replace r_t7 := zrb r_t7 kk
       replace r_t8 := zrb r_t8 kk
       replace f_s1 := zfb f_s1 kk
       replace f_s2 := zfb f_s2 kk
       replace f_p := zfb f_p kk
       have Bw20 := zbt HGS Bw19 kk
       clear Bw19 kk)
    | (have hgo := Bw20; clear hgo
       go_at_call 20
       refine (HA2.out _).mono ?_
       rintro e w29 ⟨rfl, kk⟩
       replace r_t3 := zrb r_t3 kk
       replace r_t7 := zrb r_t7 kk
       replace r_t8 := zrb r_t8 kk
       replace f_s1 := zfb f_s1 kk
       replace f_s2 := zfb f_s2 kk
       replace f_p := zfb f_p kk
       have Bw21 := zbt HGS Bw20 kk
       clear Bw20 kk)
    | (have hgo := Bw21; clear hgo
       refine wpList_alloc_row rfl 34 rfl 256 (pyF fun _ => 0) zeroP ?_
       intro b_t9 w30 lk r_t9 kk
       have n_t3_t9 := zrn r_t3 lk
       have n_t7_t9 := zrn r_t7 lk
       have n_t8_t9 := zrn r_t8 lk
       have l_t9 := zrl HGS Bw21 lk
       have a_s1_t9 := Bs.away f_s1 lk
       have a_s2_t9 := Bs.away f_s2 lk
       have a_p_t9 := Bs.away f_p lk
       replace r_t3 := zrb r_t3 kk
       replace r_t7 := zrb r_t7 kk
       replace r_t8 := zrb r_t8 kk
       replace f_s1 := zfb f_s1 kk
       replace f_s2 := zfb f_s2 kk
       replace f_p := zfb f_p kk
       have Bw22 := zbt HGS Bw21 kk
       clear Bw21 kk lk)
    | (have hgo := Bw22; clear hgo
       refine wpList_store_as rfl 34 (.tmp 9) (.tmp 32) rfl 256 (pyF PV) arrP r_t9 rfl rfl (by omega) (fun _ _ => rfl) (fun i hi => putN_whole hi) ?_
       intro w31 q gk
       replace r_t3 := gb_rowIs r_t3 gk n_t3_t9
       replace r_t7 := gb_rowIs r_t7 gk n_t7_t9
       replace r_t8 := gb_rowIs r_t8 gk n_t8_t9
       replace r_t9 := q
       have Bw23 := zbg HGS Bw22 gk l_t9
       replace f_s1 := gb_bs f_s1 gk a_s1_t9
       replace f_s2 := gb_bs f_s2 gk a_s2_t9
       replace f_p := gb_bs f_p gk a_p_t9
       clear Bw22 gk q))
  go_wp2
  have Bw24 := Bw23.drew
  replace r_t3 := World.rowIs.drew r_t3
  replace r_t7 := World.rowIs.drew r_t7
  replace r_t8 := World.rowIs.drew r_t8
  replace r_t9 := World.rowIs.drew r_t9
  replace f_s1 := Bs.drew f_s1
  replace f_s2 := Bs.drew f_s2
  replace f_p := Bs.drew f_p
  clear Bw23
  refine wp_region_lint (.rd 0 (.rd 3 (.wr 1 (.wr 2 (.wr 4 (.wr 5 (.wr 6 (.rd 7 .done)))))))) (by kernel_rfl) (by kernel_rfl) (by decide) (by kernel_rfl) (fun d _ _ _ _ h => by cases d <;> exact h) ?_
  refine lint_pure 33 (Op.load 36 (Operand.tmp 8)) 36 (.agg (arrOf 768 (p3F FU))) rfl rfl rfl rfl rfl (fun w0 hb0 => by exact exec_load_as _ _ _ _ (p3F FU) rfl arrRow (World.rowIs.of_block r_t8 (hb0.block _ (World.rowIs.lt r_t8))) (by omega) (fun i hi => by rw [Nat.zero_add])) ?_
  simp only [Act.put, zA, zB, zC]
  refine lint_pure 36 (Op.load 34 (Operand.tmp 9)) 34 (.agg (arrOf 256 (pyF PV))) rfl rfl rfl rfl rfl (fun w0 hb0 => by exact exec_load_as _ _ _ _ (pyF PV) rfl arrP (World.rowIs.of_block r_t9 (hb0.block _ (World.rowIs.lt r_t9))) (by omega) (fun i hi => by rw [Nat.zero_add])) ?_
  simp only [Act.put, zA, zB, zC]
  refine stp_fn 34 30 #[Operand.tmp 33, Operand.func 31, Operand.const (Value.int IntKind.i64 10)] #[36, 61, 3] _ (HSC.out _) rfl rfl rfl rfl Tryd.func30 (by kernel_rfl) (by kernel_rfl) (by go_simp) ?_
  rintro e w32 ⟨rfl, kk⟩
  refine ⟨_, rfl, kk, ?_⟩
  replace r_t3 := zrb r_t3 kk
  replace r_t7 := zrb r_t7 kk
  replace r_t8 := zrb r_t8 kk
  replace r_t9 := zrb r_t9 kk
  replace f_s1 := zfb f_s1 kk
  replace f_s2 := zfb f_s2 kk
  replace f_p := zfb f_p kk
  have Bw25 := zbt HGS Bw24 kk
  clear Bw24 kk
  simp only [Act.put, zA, zB, zC]
  refine stp_fn 35 21 #[Operand.tmp 34, Operand.const (Value.int IntKind.i64 10)] #[36, 3] _ (written_any FC 10 _ HLC.out (by decide) (by decide)) rfl rfl rfl rfl Tryd.func21 (by kernel_rfl) (by kernel_rfl) (by go_simp) ?_
  rintro e w33 ⟨v_s35, rfl, o_s35, kk⟩
  refine ⟨_, rfl, kk, ?_⟩
  replace r_t3 := zrb r_t3 kk
  replace r_t7 := zrb r_t7 kk
  replace r_t8 := zrb r_t8 kk
  replace r_t9 := zrb r_t9 kk
  replace f_s1 := zfb f_s1 kk
  replace f_s2 := zfb f_s2 kk
  replace f_p := zfb f_p kk
  have Bw26 := zbt HGS Bw25 kk
  clear Bw25 kk
  have f_s35 := o_s35.bs
  clear o_s35
  simp only [Act.put, zA, zB, zC]
  refine stp_fn 37 32 #[Operand.const (Value.int IntKind.i64 4), Operand.tmp 36] #[3, 34] _ (shrunk_any 4 PV _ HLV.out (by decide) (by decide)) rfl rfl rfl rfl Tryd.func32 (by kernel_rfl) (by kernel_rfl) (by go_simp) ?_
  rintro e w34 ⟨v_s37, rfl, f_s37, kk⟩
  refine ⟨_, rfl, kk, ?_⟩
  replace r_t3 := zrb r_t3 kk
  replace r_t7 := zrb r_t7 kk
  replace r_t8 := zrb r_t8 kk
  replace r_t9 := zrb r_t9 kk
  replace f_s1 := zfb f_s1 kk
  replace f_s2 := zfb f_s2 kk
  replace f_p := zfb f_p kk
  replace f_s35 := zfb f_s35 kk
  have Bw27 := zbt HGS Bw26 kk
  clear Bw26 kk
  simp only [Act.put, zA, zB, zC]
  refine stp_rows2 38 (.tmp 35) (.tmp 37) 53 rfl rfl rfl rfl rfl f_s35 f_s37 rfl rfl ?_
  intro w35 v_r38 F_r38 kk
  replace r_t3 := zrb r_t3 kk
  replace r_t7 := zrb r_t7 kk
  replace r_t8 := zrb r_t8 kk
  replace r_t9 := zrb r_t9 kk
  replace f_s1 := zfb f_s1 kk
  replace f_s2 := zfb f_s2 kk
  replace f_p := zfb f_p kk
  replace f_s35 := zfb f_s35 kk
  replace f_s37 := zfb f_s37 kk
  have Bw28 := zbt HGS Bw27 kk
  clear Bw27 kk
  simp only [Act.put, zA, zB, zC]
  refine stp_fn 39 9 #[Operand.tmp 38] #[53] _ (kcat_two _ (wrL FC 10 3) (encL (cmpN 4 PV) 4) (ctL F R M r) _ F_r38 (by rw [wrL_len, encL_len]; decide) HE.out) rfl rfl rfl rfl Tryd.func9 (by kernel_rfl) (by kernel_rfl) (by go_simp) ?_
  rintro e w36 ⟨v_s39, rfl, f_s39, kk⟩
  refine ⟨_, rfl, kk, ?_⟩
  replace r_t3 := zrb r_t3 kk
  replace r_t7 := zrb r_t7 kk
  replace r_t8 := zrb r_t8 kk
  replace r_t9 := zrb r_t9 kk
  replace f_s1 := zfb f_s1 kk
  replace f_s2 := zfb f_s2 kk
  replace f_p := zfb f_p kk
  replace f_s35 := zfb f_s35 kk
  replace f_s37 := zfb f_s37 kk
  replace F_r38 := Bss.below F_r38 kk (Nat.le_refl _)
  have Bw29 := zbt HGS Bw28 kk
  clear Bw28 kk
  simp only [Act.put, zA, zB, zC]
  refine lint_pure 6 (Op.assign (Operand.tmp 39)) 22 (v_s39) rfl rfl rfl rfl rfl (fun w0 hb0 => by unfold mkOp; go_simp; all_goals (with_reducible rfl)) ?_
  simp only [Act.put, zA, zB, zC]
  refine lint_end ?_
  go_wp2
  go_ret
  exact ⟨_, rfl, f_s39, Bw29⟩
end Go.Proofs.YtflblaccfiigfabDoor

/- Kem of the program: Keys, Check, Encaps. -/
namespace Go.Proofs.YtflblaccfiigfabDoor
open Go.RowKit Go.Deep
set_option linter.unusedSimpArgs false
set_option linter.unusedVariables false

theorem exec_rowsP1 (ρ : Operand → Value) (x : Operand) (t : TypeId) (w : World) {v1 : Value} {l1 : List UInt8} (h1 : Bs w v1 l1) (hx : ρ x = v1) :
    (execOp ρ (mkOp (.buildSlice 53 1 #[(0, x)]) t)).run Tryd.prog w = .ok (.value (.slice (some ⟨w.heap.size, 0, none⟩) 1 1)) (w.alloc (.cells #[v1] 22)) := by
  obtain ⟨a1, c1, rfl, _⟩ := h1
  simp only [execOp, mkOp, List.map_toArray, List.map_cons, List.map_nil, hx]
  go_simp
theorem wpList_rows1 {ops : Array Oper} {rest : List Oper} {o : Oper} {a : Act} {w : World} {Q : Exit → Act → World → Prop} (hgd : o.guard = none) (x : Operand) (ho : o.op = .buildSlice 53 1 #[(0, x)]) {v1 : Value} {l1 : List UInt8} (h1 : Bs w v1 l1) (hx : a.eval x = v1)
    (h : ∀ v w', Bss w' v [l1] → Below w.heap.size w w' → wpList Tryd.prog ops Q rest (a.put o.dst v) w') : wpList Tryd.prog ops Q (o :: rest) a w := by
  have hr := exec_rowsP1 a.eval x o.type w h1 hx
  exact wpList_plain hgd fun _ hK => by
    unfold Oper.wp
    rw [exec_mkOp, ho, hr]
    exact hK _ _ (h _ _ (Bss.one h1 rfl) ((Below.refl _ _).alloc (Nat.le_refl _) _))
theorem Bss.fourP {w : World} {v1 v2 v3 v4 : Value} {l1 l2 l3 l4 : List UInt8} (h1 : Bs w v1 l1) (h2 : Bs w v2 l2) (h3 : Bs w v3 l3) (h4 : Bs w v4 l4) {n : Nat} (hn : w.heap.size = n) : Bss (w.alloc (.cells #[v1, v2, v3, v4] 22)) (.slice (some ⟨n, 0, none⟩) 4 4) [l1, l2, l3, l4] := by
  subst hn
  have hb : Below w.heap.size w (w.alloc (.cells #[v1, v2, v3, v4] 22)) := (Below.refl _ _).alloc (Nat.le_refl _) _
  refine ⟨_, 4, rfl, by simp, by simp [maxLen], (fun h => by cases h), fun x hx i hi => ?_⟩
  cases hx
  match i, hi with
  | 0, _ =>
    refine ⟨by simp, v1, ?_, h1.below hb (Nat.le_refl _)⟩
    rw [add_eq]
    exact World.cell?_alloc_mark w #[v1, v2, v3, v4] 22 (0, 0) 0
  | 1, _ =>
    refine ⟨by simp, v2, ?_, h2.below hb (Nat.le_refl _)⟩
    rw [add_eq]
    exact World.cell?_alloc_mark w #[v1, v2, v3, v4] 22 (0, 0) 1
  | 2, _ =>
    refine ⟨by simp, v3, ?_, h3.below hb (Nat.le_refl _)⟩
    rw [add_eq]
    exact World.cell?_alloc_mark w #[v1, v2, v3, v4] 22 (0, 0) 2
  | 3, _ =>
    refine ⟨by simp, v4, ?_, h4.below hb (Nat.le_refl _)⟩
    rw [add_eq]
    exact World.cell?_alloc_mark w #[v1, v2, v3, v4] 22 (0, 0) 3
theorem exec_rowsP4 (ρ : Operand → Value) (x y z u : Operand) (t : TypeId) (w : World) {v1 v2 v3 v4 : Value} {l1 l2 l3 l4 : List UInt8} (h1 : Bs w v1 l1) (h2 : Bs w v2 l2) (h3 : Bs w v3 l3) (h4 : Bs w v4 l4) (hx : ρ x = v1) (hy : ρ y = v2) (hz : ρ z = v3) (hu : ρ u = v4) :
    (execOp ρ (mkOp (.buildSlice 53 4 #[(0, x), (1, y), (2, z), (3, u)]) t)).run Tryd.prog w = .ok (.value (.slice (some ⟨w.heap.size, 0, none⟩) 4 4)) (w.alloc (.cells #[v1, v2, v3, v4] 22)) := by
  obtain ⟨a1, c1, rfl, _⟩ := h1
  obtain ⟨a2, c2, rfl, _⟩ := h2
  obtain ⟨a3, c3, rfl, _⟩ := h3
  obtain ⟨a4, c4, rfl, _⟩ := h4
  simp only [execOp, mkOp, List.map_toArray, List.map_cons, List.map_nil, hx, hy, hz, hu]
  go_simp
theorem wpList_rows4 {ops : Array Oper} {rest : List Oper} {o : Oper} {a : Act} {w : World} {Q : Exit → Act → World → Prop} (hgd : o.guard = none) (x y z u : Operand) (ho : o.op = .buildSlice 53 4 #[(0, x), (1, y), (2, z), (3, u)]) {v1 v2 v3 v4 : Value} {l1 l2 l3 l4 : List UInt8} (h1 : Bs w v1 l1) (h2 : Bs w v2 l2) (h3 : Bs w v3 l3) (h4 : Bs w v4 l4) (hx : a.eval x = v1) (hy : a.eval y = v2) (hz : a.eval z = v3) (hu : a.eval u = v4)
    (h : ∀ v w', Bss w' v [l1, l2, l3, l4] → Below w.heap.size w w' → wpList Tryd.prog ops Q rest (a.put o.dst v) w') : wpList Tryd.prog ops Q (o :: rest) a w := by
  have hr := exec_rowsP4 a.eval x y z u o.type w h1 h2 h3 h4 hx hy hz hu
  exact wpList_plain hgd fun _ hK => by
    unfold Oper.wp
    rw [exec_mkOp, ho, hr]
    exact hK _ _ (h _ _ (Bss.fourP h1 h2 h3 h4 rfl) ((Below.refl _ _).alloc (Nat.le_refl _) _))
def hSum (b : List UInt8) : List UInt8 := spongeL 136 6 b 32
theorem hSum_len (b : List UInt8) : (hSum b).length = 32 := spongeL_length _ _ _ _
theorem ksum_one (v : Value) (l : List UInt8) (w : World) (hT : Laid3 w) (h : Bss w v [l]) : Calls Tryd.prog 10 #[v] w fun e w' => ∃ v', e = .returned v' ∧ Bs w' v' (hSum l) ∧ Below w.heap.size w w' := by
  refine (sum3_256_any v [l] w hT h).mono ?_
  rintro e w' ⟨v', rfl, h1, h2⟩
  refine ⟨v', rfl, ?_, h2⟩
  unfold hSum
  rw [List.flatten_singleton] at h1
  exact h1
theorem kEk_len (l : List UInt8) : (kEk l).length = 1184 := by
  unfold kEk
  rw [List.length_append, wrL_len, gA_len]
theorem kHid_len (l : List UInt8) : (kHid l).length = 1152 := by
  unfold kHid
  rw [wrL_len]
def kDk (l z : List UInt8) : List UInt8 := kHid l ++ kEk l ++ hSum (kEk l) ++ z
theorem kDk_len (l z : List UInt8) (h : z.length = 32) : (kDk l z).length = 2400 := by
  unfold kDk
  rw [List.length_append, List.length_append, List.length_append, kHid_len, kEk_len, hSum_len, h]
theorem kDk_take (l z : List UInt8) : (kDk l z).take 2368 = kHid l ++ kEk l ++ hSum (kEk l) := by
  unfold kDk
  rw [List.take_append_of_le_length (by rw [List.length_append, List.length_append, kHid_len, kEk_len, hSum_len]; decide)]
  exact List.take_of_length_le (by rw [List.length_append, List.length_append, kHid_len, kEk_len, hSum_len]; decide)
theorem kDk_drop (l z : List UInt8) : (kDk l z).drop 2368 = z := by
  unfold kDk
  exact List.drop_left' (by rw [List.length_append, List.length_append, kHid_len, kEk_len, hSum_len])
theorem kcat_four (v : Value) (l m n p x : List UInt8) (w : World) (hv : Bss w v [l, m, n, p]) (hlen : l.length + m.length + n.length + p.length ≤ 2147483647) (hm : l ++ m ++ n ++ p = x) : Calls Tryd.prog 9 #[v] w fun e w' => ∃ v', e = .returned v' ∧ Bs w' v' x ∧ Below w.heap.size w w' := by
  subst hm
  have h := cat_any v [l, m, n, p] w hv (by simp; omega)
  refine h.mono ?_
  rintro e w' ⟨v', rfl, ho, kk⟩
  exact ⟨v', rfl, by simpa using ho.bs, kk⟩
/-- What was written is read as it was, mod q. -/
theorem wr_piece (f : Nat → Nat → Nat) (A : List UInt8) (i : Nat) (hi : i < 3) : (((wrL f 12 3 ++ A).take 1152).take (32 * 12 * (i + 1))).drop (32 * 12 * i) = encL (f i) 12 := by
  rw [List.take_append_of_le_length (by rw [wrL_len]; decide), List.take_of_length_le (show (wrL f 12 3).length ≤ 1152 by rw [wrL_len]; decide)]
  have h0 := encL_len (f 0) 12
  have h1 := encL_len (f 1) 12
  have h2 := encL_len (f 2) 12
  show ((([] ++ encL (f 0) 12 ++ encL (f 1) 12 ++ encL (f 2) 12) : List UInt8).take _).drop _ = _
  rw [List.nil_append]
  rcases (show i = 0 ∨ i = 1 ∨ i = 2 by omega) with rfl | rfl | rfl
  · rw [List.append_assoc, List.take_left' (by rw [h0])]
    rfl
  · rw [List.take_left' (by rw [List.length_append, h0, h1]), List.drop_left' (by rw [h0])]
  · rw [List.take_of_length_le (by rw [List.length_append, List.length_append, h0, h1, h2]; decide), List.drop_left' (by rw [List.length_append, h0, h1])]
theorem kcodes_back (f : Nat → Nat) (d i : Nat) (hi : i < 256) : decV (numL (encL f d) (32 * d)) d i = vvN f d i := by
  have h1 : pk (vvN f d) d 256 < 256 ^ (32 * d) := by
    rw [p256, show 8 * (32 * d) = d * 256 by omega]
    exact pk_lt _ _ (vvN_lt f d) 256
  unfold decV encL
  rw [numL_litB _ _ _ (Nat.le_refl _), Nat.mod_eq_of_lt h1]
  exact pk_part (vvN f d) d (vvN_lt f d) i 256 hi
theorem vv12_lt (f : Nat → Nat) (i : Nat) : vvN f 12 i < 3329 := by
  unfold vvN
  rw [if_pos rfl]
  exact Nat.mod_lt _ (by decide)
theorem okE (f : Nat → Nat → Nat) (A : List UInt8) : okR ((wrL f 12 3 ++ A).take 1152) 12 3 = true := by
  have h : ∀ i, i < 3 → mayN (rdV ((wrL f 12 3 ++ A).take 1152) 12 i) = true := fun i hi => by
    unfold rdV
    rw [wr_piece f A i hi]
    exact mayN_yes fun j hj => by rw [kcodes_back _ _ _ hj]; exact vv12_lt _ _
  simp only [okR, h 0 (by decide), h 1 (by decide), h 2 (by decide), Bool.and_self]
theorem rdR_lt (l : List UInt8) (i j : Nat) : rdR l 12 i j < 65536 := by
  unfold rdR
  split
  · exact Nat.lt_trans (decV_lt _ 12 j) (by decide)
  · exact (by decide : 0 < 65536)
set_option maxHeartbeats 4000000 in
set_option maxRecDepth 20000 in
theorem keys_yes (v0 v1 : Value) (d z : List UInt8) (w : World) (hL : Laid3 w) (h0 : Bs w v0 d) (hd : d.length = 32) (h1 : Bs w v1 z) (hz : z.length = 32) : Calls Tryd.prog 5 #[v0, v1] w fun e w' => ∃ a b, e = .returned (.tuple #[a, b, .int .i64 0]) ∧ Bs w' a (kEk d) ∧ Bs w' b (kDk d z) ∧ Below w.heap.size w w' := by
  have Bw0 := Below.refl w.heap.size w
  have HGS : Hid (∀ wq : World, Below w.heap.size w wq → w.heap.size ≤ wq.heap.size) := Lib.hid fun wq h => h.size
  obtain ⟨ad0, n0, c0, rfl, e0, y0, z0, hB0⟩ := h0.shape
  have d0 : n0 = 32 := by omega
  subst d0
  have f_s0 := hB0
  have HF_s0 := Lib.hid hB0
  clear h0 hB0
  obtain ⟨ad1, n1, c1, rfl, e1, y1, z1, hB1⟩ := h1.shape
  have d1 : n1 = 32 := by omega
  subst d1
  have f_s1 := hB1
  have HF_s1 := Lib.hid hB1
  clear h1 hB1
  have HT := Lib.hid hL
  have HZ := Lib.hid hz
  clear hL e0 e1 hd hz
  go_enter Tryd.func5, Tryd.ntmps5
  go_wp2_with (first
    | (have hgo := Bw0; clear hgo
       go_at_call 8
       refine (generate_any _ d _ (HT.out.below Bw0 HT.out.size) f_s0).mono ?_
       rintro e w13 ⟨v_s18a, v_s18b, rfl, f_s18a, f_s18b, kk⟩
       replace f_s0 := zfb f_s0 kk
       replace f_s1 := zfb f_s1 kk
       have Bw1 := zbt HGS Bw0 kk
       clear Bw0 kk)
    | (have hgo := Bw1; clear hgo
       refine wpList_rows1 rfl (.tmp 24) rfl f_s18a rfl ?_
       intro v_r25 w23 F_r25 kk
       replace f_s0 := zfb f_s0 kk
       replace f_s1 := zfb f_s1 kk
       replace f_s18a := zfb f_s18a kk
       replace f_s18b := zfb f_s18b kk
       have Bw2 := zbt HGS Bw1 kk
       clear Bw1 kk)
    | (have hgo := Bw2; clear hgo
       go_at_call 10
       refine (ksum_one _ (kEk d) _ (HT.out.below Bw2 HT.out.size) F_r25).mono ?_
       rintro e w24 ⟨v_s26, rfl, f_s26, kk⟩
       replace f_s0 := zfb f_s0 kk
       replace f_s1 := zfb f_s1 kk
       replace f_s18a := zfb f_s18a kk
       replace f_s18b := zfb f_s18b kk
       have Bw3 := zbt HGS Bw2 kk
       clear Bw2 kk)
    | (have hgo := Bw3; clear hgo
       refine wpList_rows4 rfl (.tmp 22) (.tmp 23) (.tmp 26) (.tmp 27) rfl f_s18b f_s18a f_s26 f_s1 rfl rfl rfl rfl ?_
       intro v_r28 w26 F_r28 kk
       replace f_s0 := zfb f_s0 kk
       replace f_s1 := zfb f_s1 kk
       replace f_s18a := zfb f_s18a kk
       replace f_s18b := zfb f_s18b kk
       replace f_s26 := zfb f_s26 kk
       have Bw4 := zbt HGS Bw3 kk
       clear Bw3 kk)
    | (have hgo := Bw4; clear hgo
       go_at_call 9
       refine (kcat_four _ (kHid d) (kEk d) (hSum (kEk d)) z (kDk d z) _ F_r28 (by have := HZ.out; rw [kHid_len, kEk_len, hSum_len]; omega) rfl).mono ?_
       rintro e w27 ⟨v_s29, rfl, f_s29, kk⟩
       replace f_s0 := zfb f_s0 kk
       replace f_s1 := zfb f_s1 kk
       replace f_s18a := zfb f_s18a kk
       replace f_s18b := zfb f_s18b kk
       replace f_s26 := zfb f_s26 kk
       have Bw5 := zbt HGS Bw4 kk
       clear Bw4 kk))
  go_ret3
  exact ⟨_, _, rfl, f_s18a, f_s29, Bw5⟩
set_option maxHeartbeats 4000000 in
set_option maxRecDepth 20000 in
theorem keys_nil (w : World) : Calls Tryd.prog 5 #[.slice none 0 0, .slice none 0 0] w fun e w' => e = .returned (.tuple #[.slice none 0 0, .slice none 0 0, .int .i64 1]) ∧ Below w.heap.size w w' := by
  have Bw0 := Below.refl w.heap.size w
  have HGS : Hid (∀ wq : World, Below w.heap.size w wq → w.heap.size ≤ wq.heap.size) := Lib.hid fun wq h => h.size
  go_enter Tryd.func5, Tryd.ntmps5
  go_wp2
  go_ret3
  exact ⟨rfl, Bw0⟩
set_option maxHeartbeats 4000000 in
set_option maxRecDepth 20000 in
theorem check_yes (v0 : Value) (l0 : List UInt8) (w : World) (h0 : Bs w v0 l0) (hl : l0.length = 1184) (ho : okR (l0.take 1152) 12 3 = true) : Calls Tryd.prog 7 #[v0] w fun e w' => e = .returned (.int .i64 0) ∧ Below w.heap.size w w' := by
  have Bw0 := Below.refl w.heap.size w
  have HGS : Hid (∀ wq : World, Below w.heap.size w wq → w.heap.size ≤ wq.heap.size) := Lib.hid fun wq h => h.size
  have f_s0 := h0
  have HF_s0 := Lib.hid h0
  have HO := Lib.hid (And.intro hl ho)
  clear h0 hl ho
  go_enter Tryd.func7, Tryd.ntmps7
  go_wp2_with (first
    | (have hgo := Bw0; clear hgo
       go_at_call 11
       refine (readPublic_2 _ l0 _ f_s0 HO.out.1 HO.out.2).mono ?_
       rintro e w3 ⟨v_s7, rfl, f_s7, kk⟩
       replace f_s0 := zfb f_s0 kk
       have Bw1 := zbt HGS Bw0 kk
       clear Bw0 kk)
    | (have hgo := Bw1; clear hgo
       refine wpList_alloc_row rfl 39 rfl 769 (pubF (fun _ _ => 0) (.slice none 0 0)) zeroPub ?_
       intro b_t3 w7 lk r_t3 kk
       have l_t3 := zrl HGS Bw1 lk
       have a_s0_t3 := Bs.away f_s0 lk
       have a_s7_t3 := Bs.away f_s7 lk
       replace f_s0 := zfb f_s0 kk
       replace f_s7 := zfb f_s7 kk
       have Bw2 := zbt HGS Bw1 kk
       clear Bw1 kk lk)
    | (have hgo := Bw2; clear hgo
       refine wpList_store_as rfl 39 (.tmp 3) (.tmp 8) rfl 769 (pubF (rdR (l0.take 1152) 12) v_s7) arrPub r_t3 rfl rfl (by omega) (pub_one _ f_s7) (fun i hi => putN_whole hi) ?_
       intro w8 q gk
       replace r_t3 := q
       have Bw3 := zbg HGS Bw2 gk l_t3
       replace f_s0 := gb_bs f_s0 gk a_s0_t3
       replace f_s7 := gb_bs f_s7 gk a_s7_t3
       clear Bw2 gk q))
  go_ret
  exact ⟨rfl, Bw3⟩
set_option maxHeartbeats 4000000 in
set_option maxRecDepth 20000 in
theorem check_no (v0 : Value) (l0 : List UInt8) (w : World) (h0 : Bs w v0 l0) (hl : ¬ l0.length = 1184) : Calls Tryd.prog 7 #[v0] w fun e w' => e = .returned (.int .i64 1) ∧ Below w.heap.size w w' := by
  have Bw0 := Below.refl w.heap.size w
  have HGS : Hid (∀ wq : World, Below w.heap.size w wq → w.heap.size ≤ wq.heap.size) := Lib.hid fun wq h => h.size
  have f_s0 := h0
  have HF_s0 := Lib.hid h0
  have HO := Lib.hid hl
  clear h0 hl
  go_enter Tryd.func7, Tryd.ntmps7
  go_wp2_with (first
    | (have hgo := Bw0; clear hgo
       go_at_call 11
       refine (readPublic_0 _ l0 _ f_s0 HO.out).mono ?_
       rintro e w3 ⟨rfl, kk⟩
       replace f_s0 := zfb f_s0 kk
       have Bw1 := zbt HGS Bw0 kk
       clear Bw0 kk)
    | (have hgo := Bw1; clear hgo
       refine wpList_alloc_row rfl 39 rfl 769 (pubF (fun _ _ => 0) (.slice none 0 0)) zeroPub ?_
       intro b_t3 w7 lk r_t3 kk
       have l_t3 := zrl HGS Bw1 lk
       have a_s0_t3 := Bs.away f_s0 lk
       replace f_s0 := zfb f_s0 kk
       have Bw2 := zbt HGS Bw1 kk
       clear Bw1 kk lk)
    | (have hgo := Bw2; clear hgo
       refine wpList_store_as rfl 39 (.tmp 3) (.tmp 8) rfl 769 (pubF (fun _ _ => 0) (.slice none 0 0)) arrPub r_t3 rfl rfl (by omega) pub_one0 (fun i hi => putN_whole hi) ?_
       intro w8 q gk
       replace r_t3 := q
       have Bw3 := zbg HGS Bw2 gk l_t3
       replace f_s0 := gb_bs f_s0 gk a_s0_t3
       clear Bw2 gk q))
  go_ret
  exact ⟨rfl, Bw3⟩
set_option maxHeartbeats 4000000 in
set_option maxRecDepth 20000 in
theorem encaps_yes (v0 v1 : Value) (E m : List UInt8) (w : World) (hL : Laid3 w) (h0 : Bs w v0 E) (hl : E.length = 1184) (ho : okR (E.take 1152) 12 3 = true) (h1 : Bs w v1 m) (hm : m.length = 32) : Calls Tryd.prog 6 #[v0, v1] w fun e w' => ∃ a b, e = .returned (.tuple #[a, b, .int .i64 0]) ∧ Bs w' a (gA [m, hSum E]) ∧ Bs w' b (ctL (rdR (E.take 1152) 12) (E.drop 1152) m (gB [m, hSum E])) ∧ Below w.heap.size w w' := by
  have Bw0 := Below.refl w.heap.size w
  have HGS : Hid (∀ wq : World, Below w.heap.size w wq → w.heap.size ≤ wq.heap.size) := Lib.hid fun wq h => h.size
  obtain ⟨ad1, n1, c1, rfl, e1, y1, z1, hB1⟩ := h1.shape
  have d1 : n1 = 32 := by omega
  subst d1
  have f_s1 := hB1
  have HF_s1 := Lib.hid hB1
  clear h1 hB1
  have f_s0 := h0
  have HF_s0 := Lib.hid h0
  have HT := Lib.hid hL
  have HO := Lib.hid (And.intro hl ho)
  have HM := Lib.hid hm
  have HG := Lib.hid fun v w h1 h2 => halves_any v [m, hSum E] w h1 h2
  obtain ⟨LA, hLA⟩ : ∃ L, L = gA [m, hSum E] := ⟨_, rfl⟩
  obtain ⟨LB, hLB⟩ : ∃ L, L = gB [m, hSum E] := ⟨_, rfl⟩
  rw [← hLA, ← hLB] at HG
  obtain ⟨FR, hFR⟩ : ∃ f, f = rdR (E.take 1152) 12 := ⟨_, rfl⟩
  have HRP := Lib.hid fun v w h => readPublic_2 v E w h HO.out.1 HO.out.2
  have HFL : Hid (∀ i j, FR i j < 65536) := Lib.hid (by rw [hFR]; exact rdR_lt _)
  rw [← hFR] at HRP ⊢
  rw [← hLA, ← hLB]
  clear h0 hL hl ho e1 hm hLA hLB hFR
  go_enter Tryd.func6, Tryd.ntmps6
  go_wp2_with (first
    | (have hgo := Bw0; clear hgo
       go_at_call 11
       refine (HRP.out _ _ f_s0).mono ?_
       rintro e w5 ⟨v_s11, rfl, f_s11, kk⟩
       replace f_s0 := zfb f_s0 kk
       replace f_s1 := zfb f_s1 kk
       have Bw1 := zbt HGS Bw0 kk
       clear Bw0 kk)
    | (have hgo := Bw1; clear hgo
       refine wpList_alloc_row rfl 39 rfl 769 (pubF (fun _ _ => 0) (.slice none 0 0)) zeroPub ?_
       intro b_t7 w9 lk r_t7 kk
       have l_t7 := zrl HGS Bw1 lk
       have a_s0_t7 := Bs.away f_s0 lk
       have a_s1_t7 := Bs.away f_s1 lk
       have a_s11_t7 := Bs.away f_s11 lk
       replace f_s0 := zfb f_s0 kk
       replace f_s1 := zfb f_s1 kk
       replace f_s11 := zfb f_s11 kk
       have Bw2 := zbt HGS Bw1 kk
       clear Bw1 kk lk)
    | (have hgo := Bw2; clear hgo
       refine wpList_store_as rfl 39 (.tmp 7) (.tmp 12) rfl 769 (pubF FR v_s11) arrPub r_t7 rfl rfl (by omega) (pub_one _ f_s11) (fun i hi => putN_whole hi) ?_
       intro w10 q gk
       replace r_t7 := q
       have Bw3 := zbg HGS Bw2 gk l_t7
       replace f_s0 := gb_bs f_s0 gk a_s0_t7
       replace f_s1 := gb_bs f_s1 gk a_s1_t7
       replace f_s11 := gb_bs f_s11 gk a_s11_t7
       clear Bw2 gk q)
    | (have hgo := Bw3; clear hgo
       refine wpList_rows1 rfl (.tmp 22) rfl f_s0 rfl ?_
       intro v_r23 w19 F_r23 kk
       replace r_t7 := zrb r_t7 kk
       replace f_s0 := zfb f_s0 kk
       replace f_s1 := zfb f_s1 kk
       replace f_s11 := zfb f_s11 kk
       have Bw4 := zbt HGS Bw3 kk
       clear Bw3 kk)
    | (have hgo := Bw4; clear hgo
       go_at_call 10
       refine (ksum_one _ E _ (HT.out.below Bw4 HT.out.size) F_r23).mono ?_
       rintro e w20 ⟨v_s24, rfl, f_s24, kk⟩
       replace r_t7 := zrb r_t7 kk
       replace f_s0 := zfb f_s0 kk
       replace f_s1 := zfb f_s1 kk
       replace f_s11 := zfb f_s11 kk
       have Bw5 := zbt HGS Bw4 kk
       clear Bw4 kk)
    | (have hgo := Bw5; clear hgo
       refine wpList_rows2 rfl (.tmp 21) (.tmp 24) rfl f_s1 f_s24 rfl rfl ?_
       intro v_r25 w21 F_r25 kk
       replace r_t7 := zrb r_t7 kk
       replace f_s0 := zfb f_s0 kk
       replace f_s1 := zfb f_s1 kk
       replace f_s11 := zfb f_s11 kk
       replace f_s24 := zfb f_s24 kk
       have Bw6 := zbt HGS Bw5 kk
       clear Bw5 kk)
    | (have hgo := Bw6; clear hgo
       go_at_call 12
       refine (HG.out _ _ (HT.out.below Bw6 HT.out.size) F_r25).mono ?_
       rintro e w22 ⟨v_s26a, v_s26b, rfl, f_s26a, f_s26b, kk⟩
       replace r_t7 := zrb r_t7 kk
       replace f_s0 := zfb f_s0 kk
       replace f_s1 := zfb f_s1 kk
       replace f_s11 := zfb f_s11 kk
       replace f_s24 := zfb f_s24 kk
       have Bw7 := zbt HGS Bw6 kk
       clear Bw6 kk)
    | (have hgo := Bw7; clear hgo
       refine wpList_load_as rfl 39 (.tmp 7) rfl 769 (pubF FR v_s11) arrPub r_t7 rfl (by omega) (fun i hi => by rw [Nat.zero_add]) ?_
       have Bw8 := Bw7
       clear Bw7)
    | (have hgo := Bw8; clear hgo
       go_at_call 13
       refine (encrypt_any FR v_s11 _ _ (E.drop 1152) m LB _ (HT.out.below Bw8 HT.out.size) HFL.out f_s11 f_s1 HM.out f_s26b).mono ?_
       rintro e w32 ⟨v_s33, rfl, f_s33, kk⟩
       replace r_t7 := zrb r_t7 kk
       replace f_s0 := zfb f_s0 kk
       replace f_s1 := zfb f_s1 kk
       replace f_s11 := zfb f_s11 kk
       replace f_s24 := zfb f_s24 kk
       replace f_s26a := zfb f_s26a kk
       replace f_s26b := zfb f_s26b kk
       have Bw9 := zbt HGS Bw8 kk
       clear Bw8 kk))
  go_ret3
  exact ⟨_, _, rfl, f_s26a, f_s33, Bw9⟩
end Go.Proofs.YtflblaccfiigfabDoor

/- What the document fixes of chapter 11. -/
namespace Go.Proofs.YtflblaccfiigfabDoor
open Go.RowKit Go.Deep
set_option linter.unusedSimpArgs false
set_option linter.unusedVariables false

theorem exec_blenN {w : World} (ρ : Operand → Value) (x : Operand) {v : Value} {l : List UInt8} {n : Nat} (hx : ρ x = v) (hB : Bs w v l) (hn : l.length = n) : (execOp ρ (mkOp (.call { callee := .builtin .len, args := #[x], argTypes := #[22] }) 3)).run Tryd.prog w = .ok (.value (.int .i64 (n : Int))) w := by
  subst hn
  exact exec_blen ρ x hx hB
theorem stp_make32 {ops : Array Oper} {Q : Exit → Act → World → Prop} {i : Nat} {r : Stp} {a : Act} {w : World} {o : Oper} (d : Nat) (t : TypeId) (ho : ops[i]? = some o) (hd : o.dst = some d) (hop : o.op = .makeSlice 22 (.const (.int .i64 32)) (.const (.int .i64 32))) (ht : o.type = t) (hw : Region.wanted o (yielded ops a.tmps) = true)
    (h : ∀ w' v, Bs w' v (List.replicate 32 0) → Below w.heap.size w w' → LinT Tryd.prog ops Q r (a.put (some d) v) w') : wpOp Tryd.prog ops Q i (fun a' w' => Below w.heap.size w w' ∧ LinT Tryd.prog ops Q r a' w') a w :=
  stp_made d _ t _ _ ho hd hop ht hw (exec_make32 a t w) ((Below.refl _ _).alloc (Nat.le_refl _) _) (h _ _ (made_own w 32 (by unfold maxLen; omega)).bs ((Below.refl _ _).alloc (Nat.le_refl _) _))
theorem kEk_ok (l : List UInt8) : okR ((kEk l).take 1152) 12 3 = true := okE _ _
set_option maxHeartbeats 4000000 in
set_option maxRecDepth 20000 in
theorem awake11_any (w : World) (hL : Laid3 w) : Calls Tryd.prog 4 #[] w fun e w' => e = .returned (.bool true) ∧ Below w.heap.size w w' := by
  have Bw0 := Below.refl w.heap.size w
  have HGS : Hid (∀ wq : World, Below w.heap.size w wq → w.heap.size ≤ wq.heap.size) := Lib.hid fun wq h => h.size
  have HT := Lib.hid hL
  clear hL
  go_enter Tryd.func4, Tryd.ntmps4
  go_wp2_with (first
    | (have hgo := Bw0; clear hgo
       go_at_call 5
       refine (keys_nil _).mono ?_
       rintro e w2 ⟨rfl, kk⟩
       have Bw1 := zbt HGS Bw0 kk
       clear Bw0 kk))
  have Bw2 := Bw1.drew
  clear Bw1
  refine wp_region_lint (.br 0 (.wr 1 (.wr 2 (.rd 3 (.rd 4 (.rd 5 (.rd 6 (.rd 7 (.rd 8 (.rd 9 .done))))))))) 1 (.wr 0 (.wr 2 (.rd 3 (.rd 4 (.rd 5 (.rd 6 (.rd 7 (.rd 8 (.rd 9 .done)))))))))) (by kernel_rfl) (by kernel_rfl) (by decide) (by kernel_rfl) (fun d _ _ _ _ h => by cases d <;> exact h) ?_
  refine ⟨?_, ?_⟩
  · skip
    refine stp_make32 13 22 rfl rfl rfl rfl rfl ?_
    intro w10 v_s13 f_s13 kk
    have Bw3 := zbt HGS Bw2 kk
    clear Bw2 kk
    simp only [Act.put, zA, zB, zC]
    refine stp_make32 14 22 rfl rfl rfl rfl rfl ?_
    intro w11 v_s14 f_s14 kk
    replace f_s13 := zfb f_s13 kk
    have Bw4 := zbt HGS Bw3 kk
    clear Bw3 kk
    simp only [Act.put, zA, zB, zC]
    refine stp_fn 15 5 #[Operand.tmp 13, Operand.tmp 14] #[22, 22] _ (keys_yes _ _ (List.replicate 32 0) (List.replicate 32 0) _ (HT.out.below Bw4 HT.out.size) f_s13 rfl f_s14 rfl) rfl rfl rfl rfl Tryd.func5 (by kernel_rfl) (by kernel_rfl) (by go_simp) ?_
    rintro e w12 ⟨v_s15a, v_s15b, rfl, f_s15a, f_s15b, kk⟩
    refine ⟨_, rfl, kk, ?_⟩
    replace f_s13 := zfb f_s13 kk
    replace f_s14 := zfb f_s14 kk
    have Bw5 := zbt HGS Bw4 kk
    clear Bw4 kk
    simp only [Act.put, zA, zB, zC]
    refine lint_pure 12 (Op.move (Operand.tmp 15)) 25 (.tuple #[v_s15a, v_s15b, .int .i64 0]) rfl rfl rfl rfl rfl (fun w0 hb0 => by unfold mkOp; go_simp; all_goals (with_reducible rfl)) ?_
    simp only [Act.put, zA, zB, zC]
    refine lint_pure 16 (Op.extract (Operand.tmp 12) 0) 22 (v_s15a) rfl rfl rfl rfl rfl (fun w0 hb0 => by unfold mkOp; go_simp; all_goals (with_reducible rfl)) ?_
    simp only [Act.put, zA, zB, zC]
    refine lint_pure 17 (Op.extract (Operand.tmp 12) 1) 22 (v_s15b) rfl rfl rfl rfl rfl (fun w0 hb0 => by unfold mkOp; go_simp; all_goals (with_reducible rfl)) ?_
    simp only [Act.put, zA, zB, zC]
    refine lint_pure 18 (Op.extract (Operand.tmp 12) 2) 24 (.int .i64 0) rfl rfl rfl rfl rfl (fun w0 hb0 => by unfold mkOp; go_simp; all_goals (with_reducible rfl)) ?_
    simp only [Act.put, zA, zB, zC]
    refine lint_pure 4 (Op.assign (Operand.tmp 16)) 22 (v_s15a) rfl rfl rfl rfl rfl (fun w0 hb0 => by unfold mkOp; go_simp; all_goals (with_reducible rfl)) ?_
    simp only [Act.put, zA, zB, zC]
    refine lint_pure 5 (Op.assign (Operand.tmp 17)) 22 (v_s15b) rfl rfl rfl rfl rfl (fun w0 hb0 => by unfold mkOp; go_simp; all_goals (with_reducible rfl)) ?_
    simp only [Act.put, zA, zB, zC]
    refine lint_pure 6 (Op.assign (Operand.tmp 18)) 24 (.int .i64 0) rfl rfl rfl rfl rfl (fun w0 hb0 => by unfold mkOp; go_simp; all_goals (with_reducible rfl)) ?_
    simp only [Act.put, zA, zB, zC]
    refine lint_end ?_
    go_wp2_with (first
      | (have hgo := Bw5; clear hgo
         refine wpList_value_given rfl (.int .i64 ((1184 : Nat) : Int)) (by rw [exec_mkOp]; exact exec_blenN _ _ rfl f_s15a (kEk_len _)) ?_
         have Bw6 := Bw5
         clear Bw5)
      | (have hgo := Bw6; clear hgo
         refine wpList_value_given rfl (.int .i64 ((2400 : Nat) : Int)) (by rw [exec_mkOp]; exact exec_blenN _ _ rfl f_s15b (kDk_len _ _ rfl)) ?_
         have Bw7 := Bw6
         clear Bw6)
      | (have hgo := Bw7; clear hgo
         go_at_call 7
         refine (check_yes _ (kEk (List.replicate 32 0)) _ f_s15a (kEk_len _) (kEk_ok _)).mono ?_
         rintro e w31 ⟨rfl, kk⟩
         replace f_s13 := zfb f_s13 kk
         replace f_s14 := zfb f_s14 kk
         replace f_s15a := zfb f_s15a kk
         replace f_s15b := zfb f_s15b kk
         have Bw8 := zbt HGS Bw7 kk
         clear Bw7 kk)
      | (have hgo := Bw8; clear hgo
         go_at_call 7
         refine (check_no (.slice none 0 0) [] _ (Owns.nil _ 0).bs (by decide)).mono ?_
         rintro e w35 ⟨rfl, kk⟩
         replace f_s13 := zfb f_s13 kk
         replace f_s14 := zfb f_s14 kk
         replace f_s15a := zfb f_s15a kk
         replace f_s15b := zfb f_s15b kk
         have Bw9 := zbt HGS Bw8 kk
         clear Bw8 kk))
    go_ret
    exact ⟨rfl, Bw9⟩
  · skip
    refine stp_make32 14 22 rfl rfl rfl rfl rfl ?_
    intro w10 v_s14 f_s14 kk
    have Bw3 := zbt HGS Bw2 kk
    clear Bw2 kk
    simp only [Act.put, zA, zB, zC]
    refine stp_make32 13 22 rfl rfl rfl rfl rfl ?_
    intro w11 v_s13 f_s13 kk
    replace f_s14 := zfb f_s14 kk
    have Bw4 := zbt HGS Bw3 kk
    clear Bw3 kk
    simp only [Act.put, zA, zB, zC]
    refine stp_fn 15 5 #[Operand.tmp 13, Operand.tmp 14] #[22, 22] _ (keys_yes _ _ (List.replicate 32 0) (List.replicate 32 0) _ (HT.out.below Bw4 HT.out.size) f_s13 rfl f_s14 rfl) rfl rfl rfl rfl Tryd.func5 (by kernel_rfl) (by kernel_rfl) (by go_simp) ?_
    rintro e w12 ⟨v_s15a, v_s15b, rfl, f_s15a, f_s15b, kk⟩
    refine ⟨_, rfl, kk, ?_⟩
    replace f_s14 := zfb f_s14 kk
    replace f_s13 := zfb f_s13 kk
    have Bw5 := zbt HGS Bw4 kk
    clear Bw4 kk
    simp only [Act.put, zA, zB, zC]
    refine lint_pure 12 (Op.move (Operand.tmp 15)) 25 (.tuple #[v_s15a, v_s15b, .int .i64 0]) rfl rfl rfl rfl rfl (fun w0 hb0 => by unfold mkOp; go_simp; all_goals (with_reducible rfl)) ?_
    simp only [Act.put, zA, zB, zC]
    refine lint_pure 16 (Op.extract (Operand.tmp 12) 0) 22 (v_s15a) rfl rfl rfl rfl rfl (fun w0 hb0 => by unfold mkOp; go_simp; all_goals (with_reducible rfl)) ?_
    simp only [Act.put, zA, zB, zC]
    refine lint_pure 17 (Op.extract (Operand.tmp 12) 1) 22 (v_s15b) rfl rfl rfl rfl rfl (fun w0 hb0 => by unfold mkOp; go_simp; all_goals (with_reducible rfl)) ?_
    simp only [Act.put, zA, zB, zC]
    refine lint_pure 18 (Op.extract (Operand.tmp 12) 2) 24 (.int .i64 0) rfl rfl rfl rfl rfl (fun w0 hb0 => by unfold mkOp; go_simp; all_goals (with_reducible rfl)) ?_
    simp only [Act.put, zA, zB, zC]
    refine lint_pure 4 (Op.assign (Operand.tmp 16)) 22 (v_s15a) rfl rfl rfl rfl rfl (fun w0 hb0 => by unfold mkOp; go_simp; all_goals (with_reducible rfl)) ?_
    simp only [Act.put, zA, zB, zC]
    refine lint_pure 5 (Op.assign (Operand.tmp 17)) 22 (v_s15b) rfl rfl rfl rfl rfl (fun w0 hb0 => by unfold mkOp; go_simp; all_goals (with_reducible rfl)) ?_
    simp only [Act.put, zA, zB, zC]
    refine lint_pure 6 (Op.assign (Operand.tmp 18)) 24 (.int .i64 0) rfl rfl rfl rfl rfl (fun w0 hb0 => by unfold mkOp; go_simp; all_goals (with_reducible rfl)) ?_
    simp only [Act.put, zA, zB, zC]
    refine lint_end ?_
    go_wp2_with (first
      | (have hgo := Bw5; clear hgo
         refine wpList_value_given rfl (.int .i64 ((1184 : Nat) : Int)) (by rw [exec_mkOp]; exact exec_blenN _ _ rfl f_s15a (kEk_len _)) ?_
         have Bw6 := Bw5
         clear Bw5)
      | (have hgo := Bw6; clear hgo
         refine wpList_value_given rfl (.int .i64 ((2400 : Nat) : Int)) (by rw [exec_mkOp]; exact exec_blenN _ _ rfl f_s15b (kDk_len _ _ rfl)) ?_
         have Bw7 := Bw6
         clear Bw6)
      | (have hgo := Bw7; clear hgo
         go_at_call 7
         refine (check_yes _ (kEk (List.replicate 32 0)) _ f_s15a (kEk_len _) (kEk_ok _)).mono ?_
         rintro e w31 ⟨rfl, kk⟩
         replace f_s14 := zfb f_s14 kk
         replace f_s13 := zfb f_s13 kk
         replace f_s15a := zfb f_s15a kk
         replace f_s15b := zfb f_s15b kk
         have Bw8 := zbt HGS Bw7 kk
         clear Bw7 kk)
      | (have hgo := Bw8; clear hgo
         go_at_call 7
         refine (check_no (.slice none 0 0) [] _ (Owns.nil _ 0).bs (by decide)).mono ?_
         rintro e w35 ⟨rfl, kk⟩
         replace f_s14 := zfb f_s14 kk
         replace f_s13 := zfb f_s13 kk
         replace f_s15a := zfb f_s15a kk
         replace f_s15b := zfb f_s15b kk
         have Bw9 := zbt HGS Bw8 kk
         clear Bw8 kk))
    go_ret
    exact ⟨rfl, Bw9⟩
end Go.Proofs.YtflblaccfiigfabDoor

/- From the reading of an argument to the words of the contracts: a slice of bytes, a slice of slices of bytes. -/
set_option linter.unusedSimpArgs false
set_option linter.unusedVariables false
namespace Go.Proofs.YtflblaccfiigfabDoor
open Go.ChangeShapes Go.WideShapes Go.ChangeAt Go.RowKit Go.Deep

/-- The numbers of a row of bytes, as bytes. -/
def asB (zs : List Int) : List UInt8 := zs.map fun n => UInt8.ofNat n.toNat

theorem asB_at (n : Int) (h : 0 ≤ n ∧ n ≤ 255) : ((UInt8.ofNat n.toNat).toNat : Int) = n := by
  rw [UInt8.toNat_ofNat_of_lt' (by show n.toNat < 256; omega)]; omega

/-- A row of numbers whose cells are known, read as bytes. -/
theorem bs_of_cells {W : World} {a : Option Addr} {len cap : Nat} {zs : List Int} (hl : len ≤ cap) (hm : cap ≤ maxLen) (hz : zs.length = cap) (hn : a = none → cap = 0)
    (hwz : ∀ n ∈ zs, (Lit.int .u8 n).wf = true) (hcell : ∀ x, a = some x → ∀ i, i < cap → W.cell? (x.add i) = some (.int .u8 (zs.getD i 0))) : Bs W (.slice a len cap) (asB (zs.take len)) := by
  have hlen : (asB (zs.take len)).length = len := by simp [asB]; omega
  refine ⟨a, cap, by rw [hlen], by omega, hm, hn, fun y hy i hi => ?_⟩
  rw [hlen] at hi
  have hc := hcell y hy i (by omega)
  refine ⟨by rw [← add_block y i]; exact World.block_lt_of_cell? W _ hc, ?_⟩
  rw [hc]
  have hi2 : i < zs.length := by omega
  have hg : zs.getD i 0 = zs[i] := by simp [hi2]
  have hw := bd_u8 (hwz zs[i] (List.getElem_mem _))
  rw [← hg] at hw
  have e : (asB (zs.take len))[i]'(by rw [hlen]; exact hi) = UInt8.ofNat (zs.getD i 0).toNat := by
    simp [asB, List.getElem?_eq_getElem (show i < zs.length by omega)]
  rw [e, asB_at _ hw]

theorem bs_of_trod {H : Type} {enc : TypeId × Value → H} {W : World} {a : Option Addr} {len cap : Nat} {d : DataW H} {ps : List MemPlace}
    (h : DataW.Trod enc Tryd.prog W 0 (fun _ => true) true 22 (.slice a len cap) d ps) : ∃ l, Bs W (.slice a len cap) l := by
  obtain ⟨fuel, hf⟩ := h
  rcases open_ints Tryd.underlying22 Tryd.underlying5 (by kernel_rfl) hf with ⟨hcs, _⟩ | ⟨x, l, c, zs, hcs, _, hl, hm, hz, _, hcell, hwz⟩
  · simp [Value.cells] at hcs
    obtain ⟨rfl, rfl, rfl⟩ := hcs
    exact ⟨[], Bs.nil W⟩
  · simp [Value.cells] at hcs
    obtain ⟨rfl, rfl, rfl⟩ := hcs
    have hz' : zs.length = cap := by simpa using hz
    exact ⟨_, bs_of_cells hl hm hz' (fun h => by cases h) hwz (fun y hy i hi => by cases hy; exact hcell i (by omega))⟩

end Go.Proofs.YtflblaccfiigfabDoor

/- What the rows' condition on the program's tables gives the walks. -/
set_option linter.unusedSimpArgs false
set_option linter.unusedVariables false
namespace Go.Proofs.YtflblaccfiigfabDoor
open Go.RowKit Go.Deep

def laid3 : List (String × DataW Unit) := [("missive/sha3.turns", Rows.laid_missive_sha3_turns), ("missive/sha3.sources", Rows.laid_missive_sha3_sources), ("missive/sha3.marks", Rows.laid_missive_sha3_marks)]
theorem gTurns : Tryd.prog.globalNamed "missive/sha3.turns" = some 1 := by kernel_rfl
theorem gSources : Tryd.prog.globalNamed "missive/sha3.sources" = some 2 := by kernel_rfl
theorem gMarks : Tryd.prog.globalNamed "missive/sha3.marks" = some 0 := by kernel_rfl
theorem tTurns : (Tryd.prog.globals[1]?).map (·.type) = some 109 := by kernel_rfl
theorem tSources : (Tryd.prog.globals[2]?).map (·.type) = some 109 := by kernel_rfl
theorem tMarks : (Tryd.prog.globals[0]?).map (·.type) = some 101 := by kernel_rfl
def turnsZ : List Int := turnsL.map Int.ofNat
def sourcesZ : List Int := sourcesL.map Int.ofNat
def marksZ : List Int := marksL.map Int.ofNat
theorem dTurns : (Rows.laid_missive_sha3_turns : DataW Unit) = Lib.tabData .i64 turnsZ := by kernel_rfl
theorem dSources : (Rows.laid_missive_sha3_sources : DataW Unit) = Lib.tabData .i64 sourcesZ := by kernel_rfl
theorem dMarks : (Rows.laid_missive_sha3_marks : DataW Unit) = Lib.tabData .u64 marksZ := by kernel_rfl
theorem turnsZ_at : ∀ i, i < 25 → turnsZ.getD i 0 = (turnsN i : Int) := by decide
theorem sourcesZ_at : ∀ i, i < 25 → sourcesZ.getD i 0 = (srcN i : Int) := by decide
theorem marksZ_at : ∀ i, i < 24 → marksZ.getD i 0 = ((markB i).toNat : Int) := by decide +kernel

theorem of_laid {W : World} (h : laidMetH Tryd.prog laid3 W) : Laid3 W := by
  rw [MakeChecks.laidMetH_plain _ _ _ (by kernel_rfl)] at h
  have e25 : Tryd.prog.cellsOf 109 = 25 := by kernel_rfl
  have e24 : Tryd.prog.cellsOf 101 = 24 := by kernel_rfl
  have ei : Tryd.prog.cellsOf 3 = 1 := by kernel_rfl
  have eu : Tryd.prog.cellsOf 72 = 1 := by kernel_rfl
  obtain ⟨ps, ⟨g0, t0, cs0, f0, p0, q0, hg0, ht0, hv0, hd0, ⟨g1, t1, cs1, f1, p1, q1, hg1, ht1, hv1, hd1, ⟨g2, t2, cs2, f2, p2, q2, hg2, ht2, hv2, hd2, _, _⟩, _⟩, _⟩, _, _⟩ := h
  obtain rfl := Option.some.inj (gTurns.symm.trans hg0)
  obtain rfl := Option.some.inj (gSources.symm.trans hg1)
  obtain rfl := Option.some.inj (gMarks.symm.trans hg2)
  obtain rfl := Option.some.inj (tTurns.symm.trans ht0)
  obtain rfl := Option.some.inj (tSources.symm.trans ht1)
  obtain rfl := Option.some.inj (tMarks.symm.trans ht2)
  rw [dTurns] at hd0
  rw [dSources] at hd1
  rw [dMarks] at hd2
  have T0 : Lib.TabIs Tryd.prog W "missive/sha3.turns" .i64 turnsZ := by
    unfold Lib.TabIs
    rw [hv0, ← Lib.cells_of_tab Tryd.underlying109 Tryd.underlying3 ei e25 hd0]
  have T1 : Lib.TabIs Tryd.prog W "missive/sha3.sources" .i64 sourcesZ := by
    unfold Lib.TabIs
    rw [hv1, ← Lib.cells_of_tab Tryd.underlying109 Tryd.underlying3 ei e25 hd1]
  have T2 : Lib.TabIs Tryd.prog W "missive/sha3.marks" .u64 marksZ := by
    unfold Lib.TabIs
    rw [hv2, ← Lib.cells_of_tab Tryd.underlying101 Tryd.underlying72 eu e24 hd2]
  have b0 := World.block_lt_of_cell? W _ (T0.cell gTurns 0 (by show 0 < 25; omega))
  have b1 := World.block_lt_of_cell? W _ (T1.cell gSources 0 (by show 0 < 25; omega))
  have b2 := World.block_lt_of_cell? W _ (T2.cell gMarks 0 (by show 0 < 24; omega))
  have hs : 3 ≤ W.heap.size := by
    replace b0 : 1 < W.heap.size := b0
    replace b1 : 2 < W.heap.size := b1
    replace b2 : 0 < W.heap.size := b2
    omega
  refine ⟨fun i hi => ?_, fun i hi => ?_, fun i hi => ?_, hs⟩
  · have h := T0.cell gTurns i (by show i < 25; exact hi)
    rw [turnsZ_at i hi] at h
    exact h
  · have h := T1.cell gSources i (by show i < 25; exact hi)
    rw [sourcesZ_at i hi] at h
    exact h
  · have h := T2.cell gMarks i (by show i < 24; exact hi)
    rw [marksZ_at i hi] at h
    exact h
end Go.Proofs.YtflblaccfiigfabDoor
