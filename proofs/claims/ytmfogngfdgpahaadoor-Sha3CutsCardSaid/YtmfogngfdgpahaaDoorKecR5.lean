/- The document's own permutation: iota by a register. -/
import Derived.Test.YtmfogngfdgpahaaDoorKecR2
namespace Go.Proofs.YtmfogngfdgpahaaDoor
open Go.RowKit Go.Deep

def ioM (s : Nat → BitVec 64) (m : BitVec 64) (i : Nat) : BitVec 64 := if i = 0 then s 0 ^^^ m else s i
theorem shift_val : ∀ j : Nat, j < 7 → IntKind.u64.wrap (2 ^ min (IntKind.u64.wrap (IntKind.u64.wrap (2 ^ j) - 1)).toNat 64) = (((1 <<< (2 ^ j - 1) : Nat) : BitVec 64).toNat : Int) := by decide +kernel
theorem and1_u8 : ∀ R : Nat, R < 256 → bits .and .u8 (R : Int) 1 = ((R % 2 : Nat) : Int) := by decide +kernel
theorem xor113_u8 : ∀ R : Nat, R < 256 → bits .xor .u8 (R : Int) 113 = ((R ^^^ 113 : Nat) : Int) := by decide +kernel

set_option maxHeartbeats 16000000 in
set_option maxRecDepth 100000 in
theorem refP_iota {Q : Exit → Act → World → Prop} (ab k : Nat) (s : Nat → BitVec 64) {u0 u2 u4 u5 u6 u7 u8 u9 u10 u11 u12 u13 u14 u15 u16 u17 u18 u20 u21 u22 u23 u24 u25 u26 u27 u28 u29 u30 u31 u32 u33 u34 u35 u36 u37 u38 u39 u40 u41 u42 u43 u44 u45 u46 u47 u48 u49 u50 u51 u52 u53 u54 u55 u56 u57 u58 u59 u60 u61 u62 u63 u64 u65 u66 u67 u68 u69 u70 u71 u72 u73 u74 u75 u76 u77 u78 u79 u80 u81 u82 u83 u84 u85 u86 u87 u88 u89 u90 u91 u92 u93 u94 u95 u96 u97 u98 u99 u100 u101 u102 u103 u104 u105 u106 u107 u108 u109 u110 u111 u112 u113 u114 u115 u116 u117 u118 u119 u120 u121 u122 u123 u124 u125 u126 u127 u128 u129 u130 u131 u132 u133 u134 u135 u136 u137 u138 u139 u140 u141 u142 u143 u144 u145 u146 u147 u148 u149 u150 u151 u152 u153 u154 u155 u156 u157 u158 u159 u160 u161 u162 u163 u164 u165 u166 u167 u168 u169 u170 u171 u172 u173 u174 u175 u176 u177 u178 u179 u180 u181 u182 u183 u184 u185 u186 u187 u188 u189 u190 u191 u192 u193 u194 u195 u196 u197 u198 u199 u200 u201 u202 u203 u204 : Value} {wq : World} (hk : k ≤ 161) (hA : wq.rowIs ab 34 25 (l64 s))
    (hK : ∀ (x19 x20 x181 x182 x183 x184 x185 x186 x187 x188 x189 x190 x191 x192 x193 x194 x195 x196 x197 x198 x199 x200 x201 x202 x203 : Value) (w' : World), (w'.rowIs ab 34 25 (l64 (ioM s (markTo k 7))) ∧ wq.grownBy w' (some ab)) → Q (.exit 14) ⟨(List.toArray (u0 :: (.pointer (some ⟨ab, 0, none⟩)) :: u2 :: (.int .u8 ((regAt (k + 7) : Nat) : Int)) :: u4 :: u5 :: u6 :: u7 :: u8 :: u9 :: u10 :: u11 :: u12 :: u13 :: u14 :: u15 :: u16 :: u17 :: u18 :: x19 :: x20 :: u21 :: u22 :: u23 :: u24 :: u25 :: u26 :: u27 :: u28 :: u29 :: u30 :: u31 :: u32 :: u33 :: u34 :: u35 :: u36 :: u37 :: u38 :: u39 :: u40 :: u41 :: u42 :: u43 :: u44 :: u45 :: u46 :: u47 :: u48 :: u49 :: u50 :: u51 :: u52 :: u53 :: u54 :: u55 :: u56 :: u57 :: u58 :: u59 :: u60 :: u61 :: u62 :: u63 :: u64 :: u65 :: u66 :: u67 :: u68 :: u69 :: u70 :: u71 :: u72 :: u73 :: u74 :: u75 :: u76 :: u77 :: u78 :: u79 :: u80 :: u81 :: u82 :: u83 :: u84 :: u85 :: u86 :: u87 :: u88 :: u89 :: u90 :: u91 :: u92 :: u93 :: u94 :: u95 :: u96 :: u97 :: u98 :: u99 :: u100 :: u101 :: u102 :: u103 :: u104 :: u105 :: u106 :: u107 :: u108 :: u109 :: u110 :: u111 :: u112 :: u113 :: u114 :: u115 :: u116 :: u117 :: u118 :: u119 :: u120 :: u121 :: u122 :: u123 :: u124 :: u125 :: u126 :: u127 :: u128 :: u129 :: u130 :: u131 :: u132 :: u133 :: u134 :: u135 :: u136 :: u137 :: u138 :: u139 :: u140 :: u141 :: u142 :: u143 :: u144 :: u145 :: u146 :: u147 :: u148 :: u149 :: u150 :: u151 :: u152 :: u153 :: u154 :: u155 :: u156 :: u157 :: u158 :: u159 :: u160 :: u161 :: u162 :: u163 :: u164 :: u165 :: u166 :: u167 :: u168 :: u169 :: u170 :: u171 :: u172 :: u173 :: u174 :: u175 :: u176 :: u177 :: u178 :: u179 :: u180 :: x181 :: x182 :: x183 :: x184 :: x185 :: x186 :: x187 :: x188 :: x189 :: x190 :: x191 :: x192 :: x193 :: x194 :: x195 :: x196 :: x197 :: x198 :: x199 :: x200 :: x201 :: x202 :: x203 :: u204 :: [])), []⟩ w') :
    Code.wp Tryd.prog (codeAt 14 Tryd.f19) Q ⟨(List.toArray (u0 :: (.pointer (some ⟨ab, 0, none⟩)) :: u2 :: (.int .u8 ((regAt k : Nat) : Int)) :: u4 :: u5 :: u6 :: u7 :: u8 :: u9 :: u10 :: u11 :: u12 :: u13 :: u14 :: u15 :: u16 :: u17 :: u18 :: (.int .i64 (0 : Int)) :: u20 :: u21 :: u22 :: u23 :: u24 :: u25 :: u26 :: u27 :: u28 :: u29 :: u30 :: u31 :: u32 :: u33 :: u34 :: u35 :: u36 :: u37 :: u38 :: u39 :: u40 :: u41 :: u42 :: u43 :: u44 :: u45 :: u46 :: u47 :: u48 :: u49 :: u50 :: u51 :: u52 :: u53 :: u54 :: u55 :: u56 :: u57 :: u58 :: u59 :: u60 :: u61 :: u62 :: u63 :: u64 :: u65 :: u66 :: u67 :: u68 :: u69 :: u70 :: u71 :: u72 :: u73 :: u74 :: u75 :: u76 :: u77 :: u78 :: u79 :: u80 :: u81 :: u82 :: u83 :: u84 :: u85 :: u86 :: u87 :: u88 :: u89 :: u90 :: u91 :: u92 :: u93 :: u94 :: u95 :: u96 :: u97 :: u98 :: u99 :: u100 :: u101 :: u102 :: u103 :: u104 :: u105 :: u106 :: u107 :: u108 :: u109 :: u110 :: u111 :: u112 :: u113 :: u114 :: u115 :: u116 :: u117 :: u118 :: u119 :: u120 :: u121 :: u122 :: u123 :: u124 :: u125 :: u126 :: u127 :: u128 :: u129 :: u130 :: u131 :: u132 :: u133 :: u134 :: u135 :: u136 :: u137 :: u138 :: u139 :: u140 :: u141 :: u142 :: u143 :: u144 :: u145 :: u146 :: u147 :: u148 :: u149 :: u150 :: u151 :: u152 :: u153 :: u154 :: u155 :: u156 :: u157 :: u158 :: u159 :: u160 :: u161 :: u162 :: u163 :: u164 :: u165 :: u166 :: u167 :: u168 :: u169 :: u170 :: u171 :: u172 :: u173 :: u174 :: u175 :: u176 :: u177 :: u178 :: u179 :: u180 :: u181 :: u182 :: u183 :: u184 :: u185 :: u186 :: u187 :: u188 :: u189 :: u190 :: u191 :: u192 :: u193 :: u194 :: u195 :: u196 :: u197 :: u198 :: u199 :: u200 :: u201 :: u202 :: u203 :: u204 :: [])), []⟩ wq := by
  conv => arg 2; whnf
  go_loopw [3, 19] (fun l i wr => ∃ j : Nat, j ≤ 7 ∧ i = .int .i64 j ∧ l = .int .u8 ((regAt (k + j) : Nat) : Int) ∧ wr.rowIs ab 34 25 (l64 (ioM s (markTo k j))) ∧ wq.grownBy wr (some ab)) (fun _ i _ => 7 - (intOf i).toNat)
  case atStart => exact ⟨0, Nat.zero_le _, rfl, rfl, hA.congr fun i _ => by unfold l64 ioM; by_cases e : i = 0 <;> simp [e, markTo], grownBy_refl _ _⟩
  case round =>
    clear hA
    obtain ⟨j, hj, rfl, rfl, ha, hg⟩ := hrel
    by_cases hlt : j < 7
    · clear hK
      have hR := regAt_lt (k + j) (by omega)
      have hst : regAt (k + (j + 1)) = regStep (regAt (k + j)) := rfl
      have hmk : markTo k (j + 1) = if regAt (k + j) % 2 = 1 then markTo k j ^^^ (1 <<< (2 ^ j - 1)) else markTo k j := rfl
      generalize regAt (k + j) = R at *
      unfold regStep at hst
      have hand := and1_u8 R hR
      have b1 : (j : Int) ≤ 6 := by omega
      have b2 : (R : Int) < 256 := by omega
      have HMK := Lib.hid hmk
      have HST := Lib.hid hst
      clear hmk hst
      have c0 := ha.cell (i := 0) (by omega)
      have hfr := ha.frozen 0
      unfold l64 ioM at c0
      rw [if_pos rfl] at c0
      obtain ⟨S0, hS0⟩ : ∃ S0, S0 = s 0 ^^^ markTo k j := ⟨_, rfl⟩
      rw [← hS0] at c0
      have HS0 := Lib.hid hS0
      clear hS0
      by_cases hodd : R % 2 = 1
      · by_cases hhigh : R / 128 = 1
        · have h2 : R % 2 = 1 := by omega
          rw [h2] at hand
          have h7i : ((R : Int) / 128 == 1) = true := by simp; omega
          have HX : Hid (regAt (k + (j + 1)) = (R * 2 % 256) ^^^ 113) := by have := HST.out; rw [if_pos (by omega)] at this; exact this
          have HM : Hid (markTo k (j + 1) = markTo k j ^^^ (1 <<< (2 ^ j - 1))) := by have := HMK.out; rw [if_pos (by omega)] at this; exact this
          clear HMK HST h2 hodd hhigh
          go_wp2
          have hs : IntKind.u64.signed = false := rfl
          have p0 : (0 : Int) ≤ (j : Int) := by omega
          go_still_tail 8, (by kernel_rfl)
          change wpList _ _ _ _ _ wr.drew
          go_wp2
          go_roundw
          case rel =>
            (try ((repeat apply Exists.intro); refine ⟨?_, rfl⟩))
            refine ⟨j + 1, by omega, by go_num, by rw [HX.out]; exact congrArg (Value.int .u8) (by rw [← xor113_u8 _ (by omega)]; rfl), ((ha.set 0 _).drew).congr fun i hi => ?_, gb_drew (gb_setb hg _) 1⟩
            show (if i = 0 then _ else _) = _
            unfold l64 ioM
            by_cases e : i = 0
            · rw [if_pos e, if_pos e, HM.out, ← BitVec.xor_assoc, ← HS0.out]
              refine congrArg (Value.int .u64) ?_
              rw [shift_val j hlt, xor64]
            · rw [if_neg e, if_neg e, if_neg e]
          case measure => simp [intOf]; omega
        · have h2 : R % 2 = 1 := by omega
          rw [h2] at hand
          have h7i : ((R : Int) / 128 == 1) = false := by simp; omega
          have HX : Hid (regAt (k + (j + 1)) = R * 2 % 256) := by have := HST.out; rw [if_neg (by omega)] at this; exact this
          have HM : Hid (markTo k (j + 1) = markTo k j ^^^ (1 <<< (2 ^ j - 1))) := by have := HMK.out; rw [if_pos (by omega)] at this; exact this
          clear HMK HST h2 hodd hhigh
          go_wp2
          have hs : IntKind.u64.signed = false := rfl
          have p0 : (0 : Int) ≤ (j : Int) := by omega
          go_still_tail 8, (by kernel_rfl)
          change wpList _ _ _ _ _ wr.drew
          go_wp2
          go_roundw
          case rel =>
            (try ((repeat apply Exists.intro); refine ⟨?_, rfl⟩))
            refine ⟨j + 1, by omega, by go_num, by rw [HX.out]; exact congrArg (Value.int .u8) (by simp), ((ha.set 0 _).drew).congr fun i hi => ?_, gb_drew (gb_setb hg _) 1⟩
            show (if i = 0 then _ else _) = _
            unfold l64 ioM
            by_cases e : i = 0
            · rw [if_pos e, if_pos e, HM.out, ← BitVec.xor_assoc, ← HS0.out]
              refine congrArg (Value.int .u64) ?_
              rw [shift_val j hlt, xor64]
            · rw [if_neg e, if_neg e, if_neg e]
          case measure => simp [intOf]; omega
      · by_cases hhigh : R / 128 = 1
        · have h2 : R % 2 = 0 := by omega
          rw [h2] at hand
          have h7i : ((R : Int) / 128 == 1) = true := by simp; omega
          have HX : Hid (regAt (k + (j + 1)) = (R * 2 % 256) ^^^ 113) := by have := HST.out; rw [if_pos (by omega)] at this; exact this
          have HM : Hid (markTo k (j + 1) = markTo k j) := by have := HMK.out; rw [if_neg (by omega)] at this; exact this
          clear HMK HST h2 hodd hhigh
          go_wp2
          go_roundw
          case rel =>
            (try ((repeat apply Exists.intro); refine ⟨?_, rfl⟩))
            exact ⟨j + 1, by omega, by go_num, by rw [HX.out]; exact congrArg (Value.int .u8) (by rw [← xor113_u8 _ (by omega)]; rfl), by rw [HM.out]; exact ha, hg⟩
          case measure => simp [intOf]; omega
        · have h2 : R % 2 = 0 := by omega
          rw [h2] at hand
          have h7i : ((R : Int) / 128 == 1) = false := by simp; omega
          have HX : Hid (regAt (k + (j + 1)) = R * 2 % 256) := by have := HST.out; rw [if_neg (by omega)] at this; exact this
          have HM : Hid (markTo k (j + 1) = markTo k j) := by have := HMK.out; rw [if_neg (by omega)] at this; exact this
          clear HMK HST h2 hodd hhigh
          go_wp2
          go_roundw
          case rel =>
            (try ((repeat apply Exists.intro); refine ⟨?_, rfl⟩))
            exact ⟨j + 1, by omega, by go_num, by rw [HX.out]; exact congrArg (Value.int .u8) (by simp), by rw [HM.out]; exact ha, hg⟩
          case measure => simp [intOf]; omega
    · obtain rfl : j = 7 := by omega
      go_wp2
      exact ⟨ha, hg⟩

end Go.Proofs.YtmfogngfdgpahaaDoor
