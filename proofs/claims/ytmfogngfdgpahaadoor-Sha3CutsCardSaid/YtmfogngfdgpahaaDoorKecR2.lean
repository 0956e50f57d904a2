/- The document's own permutation: theta. -/
import Derived.Test.YtmfogngfdgpahaaDoorKecR1
namespace Go.Proofs.YtmfogngfdgpahaaDoor
open Go.RowKit Go.Deep

theorem wrap_u64 (z : Int) : IntKind.u64.wrap z = z % 18446744073709551616 := rfl
theorem pow2_63 : (2 : Int) ^ 63 = 9223372036854775808 := by decide
theorem rol1_val (x : BitVec 64) : bits .or .u64 (IntKind.u64.wrap ((x.toNat : Int) * 2)) ((x.toNat : Int) / 9223372036854775808) = ((rol x 1).toNat : Int) := by
  have h1 := shl64 x 1
  rw [show (2 : Int) ^ 1 = 2 by decide] at h1
  have h2 := shr32 x 63
  rw [pow2_63] at h2
  rw [wrap_u64, h1, h2, or64]
  rfl
def thTo (s : Nat → BitVec 64) (x y i : Nat) : BitVec 64 := if i % 5 < x ∨ (i % 5 = x ∧ i < 5 * y) then thetaS s i else s i
theorem thTo_zero (s : Nat → BitVec 64) (i : Nat) : thTo s 0 0 i = s i := by unfold thTo; rw [if_neg (by omega)]
theorem thTo_next (s : Nat → BitVec 64) (x i : Nat) (hi : i < 25) : thTo s x 5 i = thTo s (x + 1) 0 i := by
  unfold thTo
  by_cases h : i % 5 < x ∨ (i % 5 = x ∧ i < 5 * 5)
  · rw [if_pos h, if_pos (by omega)]
  · rw [if_neg h, if_neg (by omega)]
theorem thTo_step (s : Nat → BitVec 64) (x y i : Nat) (hx : x < 5) : thTo s x (y + 1) i = if i = x + 5 * y then s (x + 5 * y) ^^^ thetaD s x else thTo s x y i := by
  unfold thTo
  by_cases e : i = x + 5 * y
  · subst e
    rw [if_pos rfl, if_pos (by omega)]
    unfold thetaS
    rw [show (x + 5 * y) % 5 = x by omega]
  · rw [if_neg e]
    by_cases h : i % 5 < x ∨ (i % 5 = x ∧ i < 5 * y)
    · rw [if_pos h, if_pos (by omega)]
    · rw [if_neg h, if_neg (by omega)]

set_option maxHeartbeats 16000000 in
set_option maxRecDepth 100000 in
theorem refP_theta {Q : Exit → Act → World → Prop} (ab cb : Nat) (s : Nat → BitVec 64) {u0 u2 u3 u4 u6 u8 u9 u10 u11 u12 u13 u14 u15 u16 u17 u18 u19 u20 u21 u22 u23 u24 u25 u26 u27 u28 u29 u30 u31 u32 u33 u34 u35 u36 u37 u38 u39 u40 u41 u42 u43 u44 u45 u46 u47 u48 u49 u50 u51 u52 u53 u54 u55 u56 u57 u58 u59 u60 u61 u62 u63 u64 u65 u66 u67 u68 u69 u70 u71 u72 u73 u74 u75 u76 u77 u78 u79 u80 u81 u82 u83 u84 u85 u86 u87 u88 u89 u90 u91 u92 u93 u94 u95 u96 u97 u98 u99 u100 u101 u102 u103 u104 u105 u106 u107 u108 u109 u110 u111 u112 u113 u114 u115 u116 u117 u118 u119 u120 u121 u122 u123 u124 u125 u126 u127 u128 u129 u130 u131 u132 u133 u134 u135 u136 u137 u138 u139 u140 u141 u142 u143 u144 u145 u146 u147 u148 u149 u150 u151 u152 u153 u154 u155 u156 u157 u158 u159 u160 u161 u162 u163 u164 u165 u166 u167 u168 u169 u170 u171 u172 u173 u174 u175 u176 u177 u178 u179 u180 u181 u182 u183 u184 u185 u186 u187 u188 u189 u190 u191 u192 u193 u194 u195 u196 u197 u198 u199 u200 u201 u202 u203 u204 : Value} {wq : World} (hne : cb ≠ ab) (hA : wq.rowIs ab 34 25 (l64 s)) (hC : wq.rowIs cb 54 5 (l64 (colS s)))
    (hK : ∀ (x7 x8 x9 x54 x55 x56 x57 x58 x59 x60 x61 x62 x63 x64 x65 x66 x67 x68 x69 x70 x71 x72 x73 x74 x75 x76 x77 x78 x79 x80 x81 x82 x83 x84 x85 x86 x87 x88 x89 x90 x91 x92 x93 : Value) (w' : World), (w'.rowIs ab 34 25 (l64 (thetaS s)) ∧ wq.grownBy w' (some ab)) → Q (.exit 4) ⟨(List.toArray (u0 :: (.pointer (some ⟨ab, 0, none⟩)) :: u2 :: u3 :: u4 :: (.pointer (some ⟨cb, 0, none⟩)) :: u6 :: x7 :: x8 :: x9 :: u10 :: u11 :: u12 :: u13 :: u14 :: u15 :: u16 :: u17 :: u18 :: u19 :: u20 :: u21 :: u22 :: u23 :: u24 :: u25 :: u26 :: u27 :: u28 :: u29 :: u30 :: u31 :: u32 :: u33 :: u34 :: u35 :: u36 :: u37 :: u38 :: u39 :: u40 :: u41 :: u42 :: u43 :: u44 :: u45 :: u46 :: u47 :: u48 :: u49 :: u50 :: u51 :: u52 :: u53 :: x54 :: x55 :: x56 :: x57 :: x58 :: x59 :: x60 :: x61 :: x62 :: x63 :: x64 :: x65 :: x66 :: x67 :: x68 :: x69 :: x70 :: x71 :: x72 :: x73 :: x74 :: x75 :: x76 :: x77 :: x78 :: x79 :: x80 :: x81 :: x82 :: x83 :: x84 :: x85 :: x86 :: x87 :: x88 :: x89 :: x90 :: x91 :: x92 :: x93 :: u94 :: u95 :: u96 :: u97 :: u98 :: u99 :: u100 :: u101 :: u102 :: u103 :: u104 :: u105 :: u106 :: u107 :: u108 :: u109 :: u110 :: u111 :: u112 :: u113 :: u114 :: u115 :: u116 :: u117 :: u118 :: u119 :: u120 :: u121 :: u122 :: u123 :: u124 :: u125 :: u126 :: u127 :: u128 :: u129 :: u130 :: u131 :: u132 :: u133 :: u134 :: u135 :: u136 :: u137 :: u138 :: u139 :: u140 :: u141 :: u142 :: u143 :: u144 :: u145 :: u146 :: u147 :: u148 :: u149 :: u150 :: u151 :: u152 :: u153 :: u154 :: u155 :: u156 :: u157 :: u158 :: u159 :: u160 :: u161 :: u162 :: u163 :: u164 :: u165 :: u166 :: u167 :: u168 :: u169 :: u170 :: u171 :: u172 :: u173 :: u174 :: u175 :: u176 :: u177 :: u178 :: u179 :: u180 :: u181 :: u182 :: u183 :: u184 :: u185 :: u186 :: u187 :: u188 :: u189 :: u190 :: u191 :: u192 :: u193 :: u194 :: u195 :: u196 :: u197 :: u198 :: u199 :: u200 :: u201 :: u202 :: u203 :: u204 :: [])), []⟩ w') :
    Code.wp Tryd.prog (codeAt 4 Tryd.f19) Q ⟨(List.toArray (u0 :: (.pointer (some ⟨ab, 0, none⟩)) :: u2 :: u3 :: u4 :: (.pointer (some ⟨cb, 0, none⟩)) :: u6 :: (.int .i64 (0 : Int)) :: u8 :: u9 :: u10 :: u11 :: u12 :: u13 :: u14 :: u15 :: u16 :: u17 :: u18 :: u19 :: u20 :: u21 :: u22 :: u23 :: u24 :: u25 :: u26 :: u27 :: u28 :: u29 :: u30 :: u31 :: u32 :: u33 :: u34 :: u35 :: u36 :: u37 :: u38 :: u39 :: u40 :: u41 :: u42 :: u43 :: u44 :: u45 :: u46 :: u47 :: u48 :: u49 :: u50 :: u51 :: u52 :: u53 :: u54 :: u55 :: u56 :: u57 :: u58 :: u59 :: u60 :: u61 :: u62 :: u63 :: u64 :: u65 :: u66 :: u67 :: u68 :: u69 :: u70 :: u71 :: u72 :: u73 :: u74 :: u75 :: u76 :: u77 :: u78 :: u79 :: u80 :: u81 :: u82 :: u83 :: u84 :: u85 :: u86 :: u87 :: u88 :: u89 :: u90 :: u91 :: u92 :: u93 :: u94 :: u95 :: u96 :: u97 :: u98 :: u99 :: u100 :: u101 :: u102 :: u103 :: u104 :: u105 :: u106 :: u107 :: u108 :: u109 :: u110 :: u111 :: u112 :: u113 :: u114 :: u115 :: u116 :: u117 :: u118 :: u119 :: u120 :: u121 :: u122 :: u123 :: u124 :: u125 :: u126 :: u127 :: u128 :: u129 :: u130 :: u131 :: u132 :: u133 :: u134 :: u135 :: u136 :: u137 :: u138 :: u139 :: u140 :: u141 :: u142 :: u143 :: u144 :: u145 :: u146 :: u147 :: u148 :: u149 :: u150 :: u151 :: u152 :: u153 :: u154 :: u155 :: u156 :: u157 :: u158 :: u159 :: u160 :: u161 :: u162 :: u163 :: u164 :: u165 :: u166 :: u167 :: u168 :: u169 :: u170 :: u171 :: u172 :: u173 :: u174 :: u175 :: u176 :: u177 :: u178 :: u179 :: u180 :: u181 :: u182 :: u183 :: u184 :: u185 :: u186 :: u187 :: u188 :: u189 :: u190 :: u191 :: u192 :: u193 :: u194 :: u195 :: u196 :: u197 :: u198 :: u199 :: u200 :: u201 :: u202 :: u203 :: u204 :: [])), []⟩ wq := by
  conv => arg 2; whnf
  go_loopw [7] (fun i wr => ∃ x : Nat, x ≤ 5 ∧ i = .int .i64 x ∧ wr.rowIs ab 34 25 (l64 (thTo s x 0)) ∧ wq.grownBy wr (some ab)) (fun i _ => 5 - (intOf i).toNat)
  case atStart => exact ⟨0, Nat.zero_le _, rfl, hA.congr fun i _ => by unfold l64; rw [thTo_zero], grownBy_refl _ _⟩
  case round =>
    clear hA
    obtain ⟨x, hx, rfl, ha, hg⟩ := hrel
    have hc := gb_rowIs hC hg hne
    by_cases hlt : x < 5
    · clear hK hC
      obtain ⟨x4, hx4⟩ : ∃ x4, x4 = (x + 4) % 5 := ⟨_, rfl⟩
      obtain ⟨x1, hx1⟩ : ∃ x1, x1 = (x + 1) % 5 := ⟨_, rfl⟩
      have c4 := hc.cell (i := x4) (by omega)
      have c1 := hc.cell (i := x1) (by omega)
      unfold l64 at c4 c1
      have q4 : (x4 : Int) < 5 := by omega
      have q1 : (x1 : Int) < 5 := by omega
      have e4 : IntKind.i64.wrap ((x : Int) + 4) = (x : Int) + 4 := IntWalk.i64_in _ (by omega)
      have e1 : IntKind.i64.wrap ((x : Int) + 1) = (x : Int) + 1 := IntWalk.i64_in _ (by omega)
      have t4 : ((x : Int) + 4).tmod 5 = (x4 : Int) := by rw [Int.tmod_eq_emod_of_nonneg (by omega)]; omega
      have t1 : ((x : Int) + 1).tmod 5 = (x1 : Int) := by rw [Int.tmod_eq_emod_of_nonneg (by omega)]; omega
      have HX4 := Lib.hid hx4
      have HX1 := Lib.hid hx1
      clear hx4 hx1
      go_wp2
      go_quiet (fail)
      obtain ⟨D, hD⟩ : ∃ D, D = thetaD s x := ⟨_, rfl⟩
      have eD : bits .xor .u64 ((colS s x4).toNat : Int) (bits .or .u64 (IntKind.u64.wrap (((colS s x1).toNat : Int) * 2)) (((colS s x1).toNat : Int) / 9223372036854775808)) = (D.toNat : Int) := by
        rw [rol1_val, xor64, hD, HX4.out, HX1.out]; rfl
      rw [eD]
      have HD := Lib.hid hD
      clear eD hD c4 c1 q4 q1 e4 e1 t4 t1 HX4 HX1
      replace ha : (wr.drewN nq).rowIs ab 34 25 (l64 (thTo s x 0)) := ha
      replace hg := gb_drew hg nq
      generalize wr.drewN nq = w5 at ha hg ⊢
      clear hc
      have b1 : (x : Int) < 5 := by omega
      go_wp2
      go_loopw [9] (fun i wr => ∃ y : Nat, y ≤ 5 ∧ i = .int .i64 y ∧ wr.rowIs ab 34 25 (l64 (thTo s x y)) ∧ wq.grownBy wr (some ab)) (fun i _ => 5 - (intOf i).toNat)
      case atStart => exact ⟨0, Nat.zero_le _, rfl, ha, hg⟩
      case round =>
        clear ha hg
        obtain ⟨y, hy, rfl, ha, hg⟩ := hrel
        by_cases hlt2 : y < 5
        · have c0 := ha.cell (i := x + 5 * y) (by omega)
          have hfr := ha.frozen (x + 5 * y)
          have hstep := thTo_step s x y
          unfold l64 thTo at c0
          rw [if_neg (by omega)] at c0
          have b2 : (y : Int) < 5 := by omega
          have b3 : (x : Int) + 5 * (y : Int) < 25 := by omega
          have b4 : (0 : Int) ≤ (x : Int) + 5 * (y : Int) := by omega
          have HS := Lib.hid hstep
          clear hstep
          go_wp2
          go_roundw
          case rel =>
            (try ((repeat apply Exists.intro); refine ⟨?_, rfl⟩))
            refine ⟨y + 1, by omega, by go_num, (ha.set (x + 5 * y) _).congr fun i hi => ?_, gb_setb hg _⟩
            show (if i = x + 5 * y then _ else _) = _
            unfold l64
            rw [HS.out i hlt]
            by_cases e : i = x + 5 * y
            · rw [if_pos e, if_pos e, ← HD.out]
              exact congrArg (Value.int .u64) (xor64 _ _)
            · rw [if_neg e, if_neg e]
          case measure => simp [intOf]; omega
        · obtain rfl : y = 5 := by omega
          go_wp2
          go_roundw
          case rel =>
            (try ((repeat apply Exists.intro); refine ⟨?_, rfl⟩))
            exact ⟨x + 1, by omega, by go_num, ha.congr fun i hi => by unfold l64; rw [thTo_next s x i hi], hg⟩
          case measure => simp [intOf]; omega
    · obtain rfl : x = 5 := by omega
      go_wp2
      refine ⟨ha.congr fun i hi => ?_, hg⟩
      unfold l64 thTo
      rw [if_pos (by omega)]

end Go.Proofs.YtmfogngfdgpahaaDoor
