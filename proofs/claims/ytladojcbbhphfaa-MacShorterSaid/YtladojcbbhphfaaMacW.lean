/- Mac of no key and no bytes, by the kernel; what the document fixes of chapter 4. -/
import Derived.Test.YtladojcbbhphfaaMacA
import Derived.Test.YtladojcbbhphfaaAwake2
namespace Go.Proofs.Ytladojcbbhphfaa
open Go.RowKit Go.Deep

theorem Kind.sum_two {n : Nat} (k : Kind n) (m b0 b1 : List UInt8) (s1 s2 : S8 n) (h : (k.pad m).length / k.block = 2) (e0 : ((k.pad m).drop (k.block * 0)).take k.block = b0) (e1 : ((k.pad m).drop (k.block * 1)).take k.block = b1)
    (p1 : k.press k.first b0 = s1) (p2 : k.press s1 b1 = s2) : k.sum m = k.out s2 8 := by
  unfold Kind.sum
  rw [h]
  show k.out (k.press (k.press k.first (((k.pad m).drop (k.block * 0)).take k.block)) (((k.pad m).drop (k.block * 1)).take k.block)) 8 = _
  rw [e0, e1, p1, p2]

set_option maxRecDepth 100000
def n36 : List UInt8 := List.replicate 64 0x36
def n5c : List UInt8 := List.replicate 64 0x5c
def tail1 : List UInt8 := [128, 0, 0, 0, 0, 0, 0, 0, 0, 0, 0, 0, 0, 0, 0, 0, 0, 0, 0, 0, 0, 0, 0, 0, 0, 0, 0, 0, 0, 0, 0, 0, 0, 0, 0, 0, 0, 0, 0, 0, 0, 0, 0, 0, 0, 0, 0, 0, 0, 0, 0, 0, 0, 0, 0, 0, 0, 0, 0, 0, 0, 0, 2, 0]
def tail2 : List UInt8 := [231, 43, 189, 77, 66, 154, 201, 20, 168, 166, 197, 189, 73, 99, 47, 246, 176, 13, 79, 239, 66, 175, 180, 67, 240, 184, 4, 125, 240, 108, 133, 210, 128, 0, 0, 0, 0, 0, 0, 0, 0, 0, 0, 0, 0, 0, 0, 0, 0, 0, 0, 0, 0, 0, 0, 0, 0, 0, 0, 0, 0, 0, 3, 0]
def st1 : S8 32 := ⟨0xf454dead, 0x9725214f, 0x90daf2a0, 0xdf1228ea, 0x64e5750f, 0xa3924181, 0x824a932b, 0xf8e04e32⟩
def st2 : S8 32 := ⟨0xe72bbd4d, 0x429ac914, 0xa8a6c5bd, 0x49632ff6, 0xb00d4fef, 0x42afb443, 0xf0b8047d, 0xf06c85d2⟩
def st3 : S8 32 := ⟨0xd385480f, 0x7abb6477, 0x37c9c538, 0x5dd82467, 0x8e043a72, 0x753434b0, 0xdeb82818, 0x361d45a6⟩
def st4 : S8 32 := ⟨0xb613679a, 0x0814d9ec, 0x772f95d7, 0x78c35fc5, 0xff1697c4, 0x93715653, 0xc6c71214, 0x4292c5ad⟩
theorem press_1 : k256.press k256.first n36 = st1 := by rw [Kind.press_ev]; kernel_rfl
theorem press_2 : k256.press st1 tail1 = st2 := by rw [Kind.press_ev]; kernel_rfl
theorem press_3 : k256.press k256.first n5c = st3 := by rw [Kind.press_ev]; kernel_rfl
theorem press_4 : k256.press st3 tail2 = st4 := by rw [Kind.press_ev]; kernel_rfl
theorem inner_none : k256.sum n36 = k256.out st2 8 := Kind.sum_two k256 n36 n36 tail1 st1 st2 (by kernel_rfl) (by kernel_rfl) (by kernel_rfl) press_1 press_2
theorem outer_none : k256.sum (n5c ++ k256.out st2 8) = k256.out st4 8 := Kind.sum_two k256 _ n5c tail2 st3 st4 (by kernel_rfl) (by kernel_rfl) (by kernel_rfl) press_3 press_4
theorem hmac_none : hmac [] [] = k256.out st4 8 := by
  have e1 : xorM 0x36 (padK []) ++ [] = n36 := by kernel_rfl
  have e2 : xorM 0x5c (padK []) = n5c := by kernel_rfl
  unfold hmac
  rw [e1, e2, inner_none, outer_none]
theorem hmac_none4 : (hmac [] []).take 4 = [182, 19, 103, 154] := by
  rw [hmac_none]
  kernel_rfl

theorem Bss.nil (w : World) : Bss w (.slice none 0 0) [] := ⟨none, 0, rfl, by simp, by simp [maxLen], (fun _ => rfl), (fun x h => by cases h)⟩

set_option maxHeartbeats 1000000 in
theorem awake4_any (w : World) : Calls Try.prog 7 #[] w fun e w' => e = .returned (.bool true) ∧ Below w.heap.size w w' := by
  have hb := Bs.nil w
  have hr := Bss.nil w
  go_enter Try.func7, Try.ntmps7
  go_wp2_with (go_at_call 12; refine (mac_any _ _ [] [] _ hb (by decide) hr (by decide)).mono ?_; rintro e w1 ⟨v1, rfl, hB1, hb1⟩
               have l1 : (hmac [] ([] : List (List UInt8)).flatten).length = 32 := hmac_length _ _
               obtain ⟨a1, n1, c1, rfl, e1, f1, g1, hB1⟩ := hB1.shape
               rw [l1] at e1
               subst e1
               have t1 := (hB1.take (k := 4) (by omega)).conv
               rw [show ([] : List (List UInt8)).flatten = [] from rfl, hmac_none4] at t1
               have s1 := to_four hB1 (by omega)
               clear l1 hB1 hr hb)
  go_ret
  exact ⟨rfl, hb1⟩
end Go.Proofs.Ytladojcbbhphfaa
