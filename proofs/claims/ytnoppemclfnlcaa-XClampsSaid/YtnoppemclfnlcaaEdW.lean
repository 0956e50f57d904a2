/- What the document fixes of chapter 6; the contracts in the words of bytes of one's own. -/
import Derived.Test.YtnoppemclfnlcaaEdZ
import Derived.Test.YtnoppemclfnlcaaEdE
import Derived.Test.YtnoppemclfnlcaaPoS
import Derived.Test.YtnoppemclfnlcaaRefUnhex
namespace Go.Proofs.Ytnoppemclfnlcaa
open Go.RowKit Go.Deep
set_option linter.unusedSimpArgs false
set_option linter.unusedVariables false

theorem kF_own {w : World} {base b K : Nat} (h : w.rowIs b 5 32 (kF K)) (hb : base ≤ b) : Owns w base (.slice (some ⟨b, 0, none⟩) 32 32) (litB K 32) :=
  Owns.of_row h hb (by unfold maxLen; omega) (litB_length _ _) fun i hi => by
    rw [litB_at]
    unfold kF byteN
    rw [UInt8.toNat_ofNat']
theorem clampO_any (v : Value) (l : List UInt8) (w : World) (hv : Bs w v l) :
    Calls Try.prog 10 #[v] w fun e w' => ∃ v', e = .returned v' ∧ Owns w' w.heap.size v' (litB (clampN l) 32) ∧ Below w.heap.size w w' :=
  (clamp_any v l w hv).mono fun e w' ⟨h1, h2, h3⟩ => ⟨_, h1, kF_own h2 (Nat.le_refl _), h3⟩
theorem refClampO_any (v : Value) (l : List UInt8) (w : World) (hv : Bs w v l) :
    Calls Try.prog 11 #[v] w fun e w' => ∃ v', e = .returned v' ∧ Owns w' w.heap.size v' (litB (clampN l) 32) ∧ Below w.heap.size w w' :=
  (refClamp_any v l w hv).mono fun e w' ⟨h1, h2, h3⟩ => ⟨_, h1, kF_own h2 (Nat.le_refl _), h3⟩

def kW : List UInt8 := [165, 70, 227, 107, 240, 82, 124, 157, 59, 22, 21, 75, 130, 70, 94, 221, 98, 20, 76, 10, 193, 252, 90, 24, 80, 106, 34, 68, 186, 68, 154, 196]
def uW : List UInt8 := [230, 219, 104, 103, 88, 48, 48, 219, 53, 148, 193, 164, 36, 177, 95, 124, 114, 102, 36, 236, 38, 179, 53, 59, 16, 169, 3, 166, 208, 171, 28, 76]
theorem unhex_lit (s : ByteArray) (l : List UInt8) (w : World) (hs : s.size ≤ 2147480000) (hok : hexOk s.data.toList) (hl : unhexB s.data.toList = l) :
    Calls Try.prog 19 #[.string s] w fun e w' => ∃ v, e = .returned (.tuple #[v, .bool true]) ∧ Bs w' v l ∧ Below w.heap.size w w' :=
  (refUnhex_any s w hs).mono fun e w' h => by
    obtain ⟨hb, h | h⟩ := h
    · obtain ⟨_, v, h1, h2⟩ := h
      rw [hl] at h2
      exact ⟨v, h1, h2, hb⟩
    · exact absurd hok h.1
theorem hexOk_of (l : List UInt8) (h : (l.length % 2 == 0 && (List.range (l.length / 2)).all fun i => decide (0 ≤ hiV l i) && decide (0 ≤ loV l i)) = true) : hexOk l := by
  simp only [Bool.and_eq_true, beq_iff_eq, List.all_eq_true, List.mem_range, decide_eq_true_eq] at h
  exact ⟨h.1, fun i hi => h.2 i hi⟩
theorem unhex_k (w : World) : Calls Try.prog 19 #[.string ⟨#[97, 53, 52, 54, 101, 51, 54, 98, 102, 48, 53, 50, 55, 99, 57, 100, 51, 98, 49, 54, 49, 53, 52, 98, 56, 50, 52, 54, 53, 101, 100, 100, 54, 50, 49, 52, 52, 99, 48, 97, 99, 49, 102, 99, 53, 97, 49, 56, 53, 48, 54, 97, 50, 50, 52, 52, 98, 97, 52, 52, 57, 97, 99, 52]⟩] w fun e w' => ∃ v, e = .returned (.tuple #[v, .bool true]) ∧ Bs w' v kW ∧ Below w.heap.size w w' :=
  unhex_lit _ _ w (by decide +kernel) (hexOk_of _ (by decide +kernel)) (by decide +kernel)
theorem unhex_u (w : World) : Calls Try.prog 19 #[.string ⟨#[101, 54, 100, 98, 54, 56, 54, 55, 53, 56, 51, 48, 51, 48, 100, 98, 51, 53, 57, 52, 99, 49, 97, 52, 50, 52, 98, 49, 53, 102, 55, 99, 55, 50, 54, 54, 50, 52, 101, 99, 50, 54, 98, 51, 51, 53, 51, 98, 49, 48, 97, 57, 48, 51, 97, 54, 100, 48, 97, 98, 49, 99, 52, 99]⟩] w fun e w' => ∃ v, e = .returned (.tuple #[v, .bool true]) ∧ Bs w' v uW ∧ Below w.heap.size w w' :=
  unhex_lit _ _ w (by decide +kernel) (hexOk_of _ (by decide +kernel)) (by decide +kernel)
def sW : Nat := ladder (ofL uW) (clampN kW)
theorem invP_pw (a : Nat) : invP a = pw p25 255 a (p25 - 2) := (pw_eq p25 255 a (p25 - 2) (by decide +kernel)).symm
theorem ladder_pw (u K : Nat) : ladder u K = let s := ladS u K 255; let f := if s.1 = 1 then s.2.2 else s.2.1; mulP f.1 (pw p25 255 f.2 (p25 - 2)) := by
  unfold ladder ladEnd
  dsimp only
  rw [invP_pw]
theorem sW_four : (litB sW 32).take 4 = [0xc3, 0xda, 0x55, 0x37] := by
  unfold sW
  rw [ladder_pw]
  decide +kernel
theorem shE_nil : shE kW [] = 1 := by
  unfold shE
  rw [if_neg (fun h => by cases h.2)]
theorem mult_w (v0 v1 : Value) (w : World) (h0 : Bs w v0 kW) (h1 : Bs w v1 uW) :
    Calls Try.prog 12 #[v0, v1] w fun e w' => ∃ v, e = .returned v ∧ Owns w' w.heap.size v (litB sW 32) ∧ Below w.heap.size w w' := mult_any v0 v1 kW uW w h0 h1
theorem shared_w (v0 : Value) (w : World) (h0 : Bs w v0 kW) :
    Calls Try.prog 16 #[v0, .slice none 0 0] w fun e w' => ∃ v, e = .returned (.tuple #[v, .int .i64 1]) ∧ Bs w' v (shL kW []) ∧ Below w.heap.size w w' := by
  have h := shared_any v0 (.slice none 0 0) kW [] w h0 (Bs.nil w)
  rwa [shE_nil] at h
set_option maxHeartbeats 2000000 in
theorem awake6_any (w : World) : Calls Try.prog 9 #[] w fun e w' => e = .returned (.bool true) ∧ Below w.heap.size w w' := by
  have B0 := Below.refl w.heap.size w
  have HGS : Hid (∀ wq : World, Below w.heap.size w wq → w.heap.size ≤ wq.heap.size) := Lib.hid fun wq h => h.size
  have HM := Lib.hid mult_w
  have HS4 := Lib.hid sW_four
  obtain ⟨L, hL⟩ : ∃ L, L = litB sW 32 := ⟨_, rfl⟩
  have HLN : Hid (L.length = 32) := Lib.hid (by rw [hL, litB_length])
  rw [← hL] at HM HS4
  clear hL
  go_enter Try.func9, Try.ntmps9
  go_wp2_with (first
    | (go_at_call 19
       first
         | (have hgo := B0; clear hgo; refine (unhex_k _).mono ?_; rintro e w1 ⟨v1, rfl, h1, k1⟩
            have B1 := B0.trans (k1.mono (HGS.out _ B0))
            clear B0 k1)
         | (have hgo := B1; clear hgo; refine (unhex_u _).mono ?_; rintro e w2 ⟨v2, rfl, h2, k2⟩
            replace h1 := h1.below k2 (Nat.le_refl _)
            have B2 := B1.trans (k2.mono (HGS.out _ B1))
            clear B1 k2))
    | (go_at_call 12; refine (HM.out _ _ _ h1 h2).mono ?_; rintro e w3 ⟨v3, rfl, ho, k3⟩
       replace h1 := h1.below k3 (Nat.le_refl _)
       have h3 := ho.bs
       have B3 := B2.trans (k3.mono (HGS.out _ B2))
       clear B2 k3 h2 ho HM)
    | (go_at_call 16; refine (shared_w _ _ h1).mono ?_; rintro e w4 ⟨v4, rfl, h4, k4⟩
       replace h3 := h3.below k4 (Nat.le_refl _)
       have B4 := B3.trans (k4.mono (HGS.out _ B3))
       obtain ⟨a, n, c, rfl, e3, y3, z3, h3b⟩ := h3.shape
       have hn : n = 32 := by rw [← e3]; exact HLN.out
       subst hn
       have h5 := (Bs.take h3b (k := 4) (by omega)).conv
       rw [HS4.out] at h5
       clear B3 k4 h1 h4 h3 h3b e3))
  go_ret
  exact ⟨rfl, B4⟩
end Go.Proofs.Ytnoppemclfnlcaa
