/- missiveref1.Unhex. -/
import Derived.Test.YtnoppemclfnlcaaUnhex
set_option linter.unusedSimpArgs false
set_option linter.unusedVariables false
namespace Go.Proofs.Ytnoppemclfnlcaa
open Go.RowKit Go.Deep

theorem digVal_num (c : UInt8) (h1 : 48 ≤ c.toNat) (h2 : c.toNat ≤ 57) : digVal c = (c.toNat : Int) - 48 := by unfold digVal; rw [if_pos ⟨h1, h2⟩]
theorem digVal_let (c : UInt8) (h1 : 97 ≤ c.toNat) (h2 : c.toNat ≤ 102) : digVal c = (c.toNat : Int) - 87 := by unfold digVal; rw [if_neg (by omega), if_pos ⟨h1, h2⟩]
theorem digVal_non (c : UInt8) (h1 : ¬ (48 ≤ c.toNat ∧ c.toNat ≤ 57)) (h2 : ¬ (97 ≤ c.toNat ∧ c.toNat ≤ 102)) : digVal c = -1 := by unfold digVal; rw [if_neg h1, if_neg h2]

/-- Where the inner loop stands. -/
def InnerAt (l : List UInt8) (j : Nat) (v k : Value) : Prop :=
  (k = .int .i64 0 ∧ v = .int .i64 0) ∨ (k = .int .i64 1 ∧ v = .int .i64 (hiV l j) ∧ 0 ≤ hiV l j) ∨ (k = .int .i64 2 ∧ v = .int .i64 (16 * hiV l j + loV l j) ∧ pairOk l j)

def unhexTo (l : List UInt8) (j : Nat) : List UInt8 := (List.range j).map fun i => UInt8.ofNat (pairV l i)
theorem unhexTo_succ (l : List UInt8) (j : Nat) : unhexTo l (j + 1) = unhexTo l j ++ [UInt8.ofNat (pairV l j)] := by
  unfold unhexTo; rw [List.range_succ, List.map_append]; rfl

set_option maxHeartbeats 3200000 in
theorem refUnhex_any (s : ByteArray) (w : World) (hlen : s.size ≤ 2147480000) :
    Calls Try.prog 19 #[.string s] w (UnhexPost w s.data.toList) := by
  have hsz : s.data.toList.length = s.size := by simp
  have HSZ := Lib.hid hsz
  clear hsz
  by_cases hodd : s.size % 2 = 0
  · obtain ⟨k, hk⟩ : ∃ k, s.size = 2 * k := ⟨s.size / 2, by omega⟩
    have htest : ((s.size : Int) % 2 != 0) = false := by simp; omega
    have hks : 2 * k ≤ s.size := by omega
    have hks2 : s.size ≤ 2 * k := by omega
    clear hk hodd
    go_enter Try.func19, Try.ntmps19
    go_wp2
    go_loopw [4, 5] (fun v i wr => ∃ j : Nat, j ≤ k ∧ i = .int .i64 (2 * (j : Int)) ∧ Owns wr w.heap.size v (unhexTo s.data.toList j) ∧ Below w.heap.size w wr ∧ Hid (∀ i, i < j → pairOk s.data.toList i)) (fun _ i _ => s.size - (intOf i).toNat)
    case atStart => exact ⟨0, Nat.zero_le _, rfl, Owns.nil _ _, Below.refl _ _, Lib.hid (fun i hi => absurd hi (by omega))⟩
    case round =>
      obtain ⟨j, hj, rfl, hown, hbel, HP⟩ := hrel
      by_cases hlt : j < k
      · have hjl : j < s.data.toList.length / 2 := by have := HSZ.out; omega
        have p1 : 2 * j < s.size := by omega
        have p2 : 2 * j + 1 < s.size := by omega
        have Hx : Hid (hiV s.data.toList j = digVal (s[2 * j]'p1)) := Lib.hid (by rw [str_getD s _ p1]; rfl)
        have Hy : Hid (loV s.data.toList j = digVal (s[2 * j + 1]'p2)) := Lib.hid (by rw [str_getD s _ p2]; rfl)
        have hlt' : 2 * (j : Int) < (s.size : Int) := by omega
        obtain ⟨wo, rfl⟩ : ∃ wo : World, wo = wr := ⟨_, rfl⟩
        go_wp2
        go_loop [6, 7] (fun v k => InnerAt s.data.toList j v k) (fun _ k => 2 - (intOf k).toNat)
        case atStart => exact .inl ⟨rfl, rfl⟩
        case round =>
          rcases hrel with ⟨rfl, rfl⟩ | ⟨rfl, rfl, hx0⟩ | ⟨rfl, rfl, hok⟩
          · have cn := digVal_num (s[2 * j]'p1)
            have cl := digVal_let (s[2 * j]'p1)
            have cx := digVal_non (s[2 * j]'p1)
            have cb := UInt8.toNat_lt (s[2 * j]'p1)
            rw [← Hx.out] at cn cl cx
            have CC := Lib.hid (And.intro cn (And.intro cl cx))
            clear cn cl cx Hx Hy
            have hi1 : 0 ≤ 2 * (j : Int) ∧ 2 * (j : Int) < (s.size : Int) := by omega
            generalize hc : s[2 * j]'p1 = c at *
            by_cases hn : 48 ≤ c.toNat ∧ c.toNat ≤ 57
            · have n1 : (48 : Int) ≤ (c.toNat : Int) := by omega
              have n2 : (c.toNat : Int) ≤ 57 := by omega
              go_wp2
              go_round
              case rel => exact .inr (.inl ⟨by go_num, by rw [CC.out.1 hn.1 hn.2], by rw [CC.out.1 hn.1 hn.2]; omega⟩)
              case measure => simp [intOf]
            · by_cases hl : 97 ≤ c.toNat ∧ c.toNat ≤ 102
              · have n1 : (97 : Int) ≤ (c.toNat : Int) := by omega
                have n2 : (c.toNat : Int) ≤ 102 := by omega
                go_wp2
                go_round
                case rel => exact .inr (.inl ⟨by go_num, by rw [CC.out.2.1 hl.1 hl.2]; go_num, by rw [CC.out.2.1 hl.1 hl.2]; omega⟩)
                case measure => simp [intOf]
              · have hbad : Hid (¬ hexOk s.data.toList) := Lib.hid (fun h => by have := (h.2 j hjl).1; rw [CC.out.2.2 hn hl] at this; omega)
                by_cases m1 : c.toNat < 48
                · have n1 : ¬ (48 : Int) ≤ (c.toNat : Int) := by omega
                  have n2 : ¬ (97 : Int) ≤ (c.toNat : Int) := by omega
                  go_wp2
                  go_ret2
                  exact ⟨hbel, .inr ⟨hbad.out, rfl⟩⟩
                · by_cases m2 : c.toNat < 97
                  · have n0 : (48 : Int) ≤ (c.toNat : Int) := by omega
                    have n1 : ¬ (c.toNat : Int) ≤ 57 := by omega
                    have n2 : ¬ (97 : Int) ≤ (c.toNat : Int) := by omega
                    go_wp2
                    go_ret2
                    exact ⟨hbel, .inr ⟨hbad.out, rfl⟩⟩
                  · have n0 : (48 : Int) ≤ (c.toNat : Int) := by omega
                    have n1 : ¬ (c.toNat : Int) ≤ 57 := by omega
                    have n2 : (97 : Int) ≤ (c.toNat : Int) := by omega
                    have n3 : ¬ (c.toNat : Int) ≤ 102 := by omega
                    go_wp2
                    go_ret2
                    exact ⟨hbel, .inr ⟨hbad.out, rfl⟩⟩
          · have cn := digVal_num (s[2 * j + 1]'p2)
            have cl := digVal_let (s[2 * j + 1]'p2)
            have cx := digVal_non (s[2 * j + 1]'p2)
            have cb := UInt8.toNat_lt (s[2 * j + 1]'p2)
            rw [← Hy.out] at cn cl cx
            have CC := Lib.hid (And.intro cn (And.intro cl cx))
            clear cn cl cx Hx Hy
            have hi1 : 0 ≤ 2 * (j : Int) + 1 ∧ 2 * (j : Int) + 1 < (s.size : Int) := by omega
            have hx1 := (digVal_ge (s.data.toList.getD (2 * j) 0)).2
            have HH : Hid (hiV s.data.toList j = digVal (s.data.toList.getD (2 * j) 0)) := Lib.hid rfl
            rw [← HH.out] at hx1
            generalize hxx : hiV s.data.toList j = x at *
            have HXX := Lib.hid hxx
            generalize hc : s[2 * j + 1]'p2 = c at *
            clear hxx HH
            by_cases hn : 48 ≤ c.toNat ∧ c.toNat ≤ 57
            · have n1 : (48 : Int) ≤ (c.toNat : Int) := by omega
              have n2 : (c.toNat : Int) ≤ 57 := by omega
              go_wp2
              go_round
              case rel => exact .inr (.inr ⟨by go_num, by rw [HXX.out, CC.out.1 hn.1 hn.2], by rw [HXX.out]; exact hx0, by rw [CC.out.1 hn.1 hn.2]; omega⟩)
              case measure => simp [intOf]
            · by_cases hl : 97 ≤ c.toNat ∧ c.toNat ≤ 102
              · have n1 : (97 : Int) ≤ (c.toNat : Int) := by omega
                have n2 : (c.toNat : Int) ≤ 102 := by omega
                go_wp2
                go_round
                case rel => exact .inr (.inr ⟨by go_num, by rw [HXX.out, CC.out.2.1 hl.1 hl.2]; go_num, by rw [HXX.out]; exact hx0, by rw [CC.out.2.1 hl.1 hl.2]; omega⟩)
                case measure => simp [intOf]
              · have hbad : Hid (¬ hexOk s.data.toList) := Lib.hid (fun h => by have := (h.2 j hjl).2; rw [CC.out.2.2 hn hl] at this; omega)
                by_cases m1 : c.toNat < 48
                · have n1 : ¬ (48 : Int) ≤ (c.toNat : Int) := by omega
                  have n2 : ¬ (97 : Int) ≤ (c.toNat : Int) := by omega
                  go_wp2
                  go_ret2
                  exact ⟨hbel, .inr ⟨hbad.out, rfl⟩⟩
                · by_cases m2 : c.toNat < 97
                  · have n0 : (48 : Int) ≤ (c.toNat : Int) := by omega
                    have n1 : ¬ (c.toNat : Int) ≤ 57 := by omega
                    have n2 : ¬ (97 : Int) ≤ (c.toNat : Int) := by omega
                    go_wp2
                    go_ret2
                    exact ⟨hbel, .inr ⟨hbad.out, rfl⟩⟩
                  · have n0 : (48 : Int) ≤ (c.toNat : Int) := by omega
                    have n1 : ¬ (c.toNat : Int) ≤ 57 := by omega
                    have n2 : (97 : Int) ≤ (c.toNat : Int) := by omega
                    have n3 : ¬ (c.toNat : Int) ≤ 102 := by omega
                    go_wp2
                    go_ret2
                    exact ⟨hbel, .inr ⟨hbad.out, rfl⟩⟩
          · have hv : 0 ≤ 16 * hiV s.data.toList j + loV s.data.toList j := by have := hok.1; have := hok.2; omega
            have hv2 := pairV_lt s.data.toList j
            have HV : Hid (16 * hiV s.data.toList j + loV s.data.toList j = ((pairV s.data.toList j : Nat) : Int)) := Lib.hid (by unfold pairV; omega)
            have hP' : Hid (∀ i, i < j + 1 → pairOk s.data.toList i) := Lib.hid fun i hi => (by rcases (show i < j ∨ i = j by omega) with h | rfl; exact HP.out i h; exact hok)
            rw [HV.out]
            have HS := Lib.hid (unhexTo_succ s.data.toList j)
            have HB : Hid (((UInt8.ofNat (pairV s.data.toList j)).toNat : Int) = ((pairV s.data.toList j : Nat) : Int)) := Lib.hid (by rw [UInt8.toNat_ofNat_of_lt' (show _ < 256 from hv2)])
            generalize pairV s.data.toList j = p at *
            clear hv HV hok Hx Hy HP
            have hone : Bs (wo.alloc (.cells #[.int .u8 ((p : Nat) : Int)] 5)) (.slice (some ⟨wo.heap.size, 0, none⟩) 1 1) [UInt8.ofNat p] := by rw [← HB.out]; exact Bs.one wo _
            have hO := Owns.alloc hown (.cells #[.int .u8 ((p : Nat) : Int)] 5)
            have HO := Lib.hid (And.intro hO hone)
            have hlenj : (unhexTo s.data.toList j).length = j := by simp [unhexTo]
            have HL := Lib.hid hlenj
            clear hO hone hlenj HB
            go_wp2_with (refine wpList_app rfl _ _ rfl w.heap.size _ _ _ _ HO.out.1 HO.out.2 rfl rfl (by rw [HL.out]; simp; omega) (by have := hbel.size; simp; omega) ?_; intro v2 w2 hown2 hgrow2)
            rw [← HS.out] at hown2
            have hbel3 : Below w.heap.size w w2 := (hbel.alloc hbel.size _).grown hgrow2 (by have := hbel.size; simp; omega) (Owns.block HO.out.1)
            clear hgrow2 HO hown hbel
            go_wp2
            go_roundw
            case rel => exact ⟨j + 1, by omega, by go_num, hown2, hbel3, hP'⟩
            case measure => simp [intOf]; omega
      · obtain rfl : j = k := by omega
        have hout : ¬ 2 * (j : Int) < (s.size : Int) := by omega
        have hrange : Hid (unhexB s.data.toList = unhexTo s.data.toList j) := Lib.hid (by unfold unhexB unhexTo; rw [HSZ.out, show s.size / 2 = j by omega])
        go_wp2
        go_ret2
        exact ⟨hbel, .inl ⟨⟨by rw [HSZ.out]; omega, fun i hi => HP.out i (by rw [HSZ.out] at hi; omega)⟩, _, rfl, by rw [hrange.out]; exact hown.bs⟩⟩
  · have htest : ((s.size : Int) % 2 != 0) = true := by simp; omega
    go_enter Try.func19, Try.ntmps19
    go_wp2
    go_ret2
    refine ⟨Below.refl _ _, .inr ⟨fun h => hodd ?_, rfl⟩⟩
    have := h.1
    rw [HSZ.out] at this
    exact this
end Go.Proofs.Ytnoppemclfnlcaa
