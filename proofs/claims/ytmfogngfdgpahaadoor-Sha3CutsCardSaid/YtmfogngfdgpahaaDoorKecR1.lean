/- The document's own permutation: the columns, theta. -/
import Derived.Test.YtmfogngfdgpahaaDoorKecB
namespace Go.Proofs.YtmfogngfdgpahaaDoor
open Go.RowKit Go.Deep

theorem colTo_val (s : Nat → BitVec 64) (x : Nat) : bits .xor .u64 (bits .xor .u64 (bits .xor .u64 (bits .xor .u64 (s x).toNat (s (x + 5)).toNat) (s (x + 10)).toNat) (s (x + 15)).toNat) (s (x + 20)).toNat = ((colS s x).toNat : Int) := by
  rw [xor64, xor64, xor64, xor64]; rfl
def colZ (s : Nat → BitVec 64) (j : Nat) : Nat → Value := fun i => .int .u64 (if i < j then ((colS s i).toNat : Int) else 0)

set_option maxHeartbeats 16000000 in
set_option maxRecDepth 100000 in
theorem refP_col {Q : Exit → Act → World → Prop} (ab cb : Nat) (s : Nat → BitVec 64) {u0 u2 u3 u4 u7 u8 u9 u10 u11 u12 u13 u14 u15 u16 u17 u18 u19 u20 u21 u22 u23 u24 u25 u26 u27 u28 u29 u30 u31 u32 u33 u34 u35 u36 u37 u38 u39 u40 u41 u42 u43 u44 u45 u46 u47 u48 u49 u50 u51 u52 u53 u54 u55 u56 u57 u58 u59 u60 u61 u62 u63 u64 u65 u66 u67 u68 u69 u70 u71 u72 u73 u74 u75 u76 u77 u78 u79 u80 u81 u82 u83 u84 u85 u86 u87 u88 u89 u90 u91 u92 u93 u94 u95 u96 u97 u98 u99 u100 u101 u102 u103 u104 u105 u106 u107 u108 u109 u110 u111 u112 u113 u114 u115 u116 u117 u118 u119 u120 u121 u122 u123 u124 u125 u126 u127 u128 u129 u130 u131 u132 u133 u134 u135 u136 u137 u138 u139 u140 u141 u142 u143 u144 u145 u146 u147 u148 u149 u150 u151 u152 u153 u154 u155 u156 u157 u158 u159 u160 u161 u162 u163 u164 u165 u166 u167 u168 u169 u170 u171 u172 u173 u174 u175 u176 u177 u178 u179 u180 u181 u182 u183 u184 u185 u186 u187 u188 u189 u190 u191 u192 u193 u194 u195 u196 u197 u198 u199 u200 u201 u202 u203 u204 : Value} {wq : World} (hne : ab ≠ cb) (hA : wq.rowIs ab 34 25 (l64 s)) (hC : wq.rowIs cb 54 5 (fun _ => .int .u64 0))
    (hK : ∀ (x6 x25 x26 x27 x28 x29 x30 x31 x32 x33 x34 x35 x36 x37 x38 x39 x40 x41 x42 x43 x44 x45 x46 x47 x48 x49 x50 x51 x52 x53 : Value) (w' : World), (w'.rowIs cb 54 5 (l64 (colS s)) ∧ wq.grownBy w' (some cb)) → Q (.exit 2) ⟨(List.toArray (u0 :: (.pointer (some ⟨ab, 0, none⟩)) :: u2 :: u3 :: u4 :: (.pointer (some ⟨cb, 0, none⟩)) :: x6 :: u7 :: u8 :: u9 :: u10 :: u11 :: u12 :: u13 :: u14 :: u15 :: u16 :: u17 :: u18 :: u19 :: u20 :: u21 :: u22 :: u23 :: u24 :: x25 :: x26 :: x27 :: x28 :: x29 :: x30 :: x31 :: x32 :: x33 :: x34 :: x35 :: x36 :: x37 :: x38 :: x39 :: x40 :: x41 :: x42 :: x43 :: x44 :: x45 :: x46 :: x47 :: x48 :: x49 :: x50 :: x51 :: x52 :: x53 :: u54 :: u55 :: u56 :: u57 :: u58 :: u59 :: u60 :: u61 :: u62 :: u63 :: u64 :: u65 :: u66 :: u67 :: u68 :: u69 :: u70 :: u71 :: u72 :: u73 :: u74 :: u75 :: u76 :: u77 :: u78 :: u79 :: u80 :: u81 :: u82 :: u83 :: u84 :: u85 :: u86 :: u87 :: u88 :: u89 :: u90 :: u91 :: u92 :: u93 :: u94 :: u95 :: u96 :: u97 :: u98 :: u99 :: u100 :: u101 :: u102 :: u103 :: u104 :: u105 :: u106 :: u107 :: u108 :: u109 :: u110 :: u111 :: u112 :: u113 :: u114 :: u115 :: u116 :: u117 :: u118 :: u119 :: u120 :: u121 :: u122 :: u123 :: u124 :: u125 :: u126 :: u127 :: u128 :: u129 :: u130 :: u131 :: u132 :: u133 :: u134 :: u135 :: u136 :: u137 :: u138 :: u139 :: u140 :: u141 :: u142 :: u143 :: u144 :: u145 :: u146 :: u147 :: u148 :: u149 :: u150 :: u151 :: u152 :: u153 :: u154 :: u155 :: u156 :: u157 :: u158 :: u159 :: u160 :: u161 :: u162 :: u163 :: u164 :: u165 :: u166 :: u167 :: u168 :: u169 :: u170 :: u171 :: u172 :: u173 :: u174 :: u175 :: u176 :: u177 :: u178 :: u179 :: u180 :: u181 :: u182 :: u183 :: u184 :: u185 :: u186 :: u187 :: u188 :: u189 :: u190 :: u191 :: u192 :: u193 :: u194 :: u195 :: u196 :: u197 :: u198 :: u199 :: u200 :: u201 :: u202 :: u203 :: u204 :: [])), []⟩ w') :
    Code.wp Tryd.prog (codeAt 2 Tryd.f19) Q ⟨(List.toArray (u0 :: (.pointer (some ⟨ab, 0, none⟩)) :: u2 :: u3 :: u4 :: (.pointer (some ⟨cb, 0, none⟩)) :: (.int .i64 (0 : Int)) :: u7 :: u8 :: u9 :: u10 :: u11 :: u12 :: u13 :: u14 :: u15 :: u16 :: u17 :: u18 :: u19 :: u20 :: u21 :: u22 :: u23 :: u24 :: u25 :: u26 :: u27 :: u28 :: u29 :: u30 :: u31 :: u32 :: u33 :: u34 :: u35 :: u36 :: u37 :: u38 :: u39 :: u40 :: u41 :: u42 :: u43 :: u44 :: u45 :: u46 :: u47 :: u48 :: u49 :: u50 :: u51 :: u52 :: u53 :: u54 :: u55 :: u56 :: u57 :: u58 :: u59 :: u60 :: u61 :: u62 :: u63 :: u64 :: u65 :: u66 :: u67 :: u68 :: u69 :: u70 :: u71 :: u72 :: u73 :: u74 :: u75 :: u76 :: u77 :: u78 :: u79 :: u80 :: u81 :: u82 :: u83 :: u84 :: u85 :: u86 :: u87 :: u88 :: u89 :: u90 :: u91 :: u92 :: u93 :: u94 :: u95 :: u96 :: u97 :: u98 :: u99 :: u100 :: u101 :: u102 :: u103 :: u104 :: u105 :: u106 :: u107 :: u108 :: u109 :: u110 :: u111 :: u112 :: u113 :: u114 :: u115 :: u116 :: u117 :: u118 :: u119 :: u120 :: u121 :: u122 :: u123 :: u124 :: u125 :: u126 :: u127 :: u128 :: u129 :: u130 :: u131 :: u132 :: u133 :: u134 :: u135 :: u136 :: u137 :: u138 :: u139 :: u140 :: u141 :: u142 :: u143 :: u144 :: u145 :: u146 :: u147 :: u148 :: u149 :: u150 :: u151 :: u152 :: u153 :: u154 :: u155 :: u156 :: u157 :: u158 :: u159 :: u160 :: u161 :: u162 :: u163 :: u164 :: u165 :: u166 :: u167 :: u168 :: u169 :: u170 :: u171 :: u172 :: u173 :: u174 :: u175 :: u176 :: u177 :: u178 :: u179 :: u180 :: u181 :: u182 :: u183 :: u184 :: u185 :: u186 :: u187 :: u188 :: u189 :: u190 :: u191 :: u192 :: u193 :: u194 :: u195 :: u196 :: u197 :: u198 :: u199 :: u200 :: u201 :: u202 :: u203 :: u204 :: [])), []⟩ wq := by
  conv => arg 2; whnf
  go_loopw [6] (fun i wr => ∃ j : Nat, j ≤ 5 ∧ i = .int .i64 j ∧ wr.rowIs cb 54 5 (colZ s j) ∧ wq.grownBy wr (some cb)) (fun i _ => 5 - (intOf i).toNat)
  case atStart => exact ⟨0, Nat.zero_le _, rfl, hC.congr fun i _ => rfl, grownBy_refl _ _⟩
  case round =>
    clear hC
    obtain ⟨j, hj, rfl, hc, hg⟩ := hrel
    have hA2 := gb_rowIs hA hg hne
    by_cases hlt : j < 5
    · clear hK hA
      have c0 := hA2.cell (i := j) (by omega)
      have c1 := hA2.cell (i := j + 5) (by omega)
      have c2 := hA2.cell (i := j + 10) (by omega)
      have c3 := hA2.cell (i := j + 15) (by omega)
      have c4 := hA2.cell (i := j + 20) (by omega)
      have cc := hc.cell (i := j) (by omega)
      have hfr := hc.frozen j
      unfold l64 at c0 c1 c2 c3 c4
      have b1 : (j : Int) < 5 := by omega
      have b2 : (j : Int) < 25 := by omega
      have b3 : (j : Int) + 5 < 25 := by omega
      have b4 : (j : Int) + 10 < 25 := by omega
      have b5 : (j : Int) + 15 < 25 := by omega
      have b6 : (j : Int) + 20 < 25 := by omega
      have e5 : IntKind.i64.wrap ((j : Int) + 5) = (j : Int) + 5 := IntWalk.i64_in _ (by omega)
      have f5 : ((j : Int) + 5).toNat = j + 5 := by omega
      have g5 : (0 : Int) ≤ (j : Int) + 5 := by omega
      have e10 : IntKind.i64.wrap ((j : Int) + 10) = (j : Int) + 10 := IntWalk.i64_in _ (by omega)
      have f10 : ((j : Int) + 10).toNat = j + 10 := by omega
      have g10 : (0 : Int) ≤ (j : Int) + 10 := by omega
      have e15 : IntKind.i64.wrap ((j : Int) + 15) = (j : Int) + 15 := IntWalk.i64_in _ (by omega)
      have f15 : ((j : Int) + 15).toNat = j + 15 := by omega
      have g15 : (0 : Int) ≤ (j : Int) + 15 := by omega
      have e20 : IntKind.i64.wrap ((j : Int) + 20) = (j : Int) + 20 := IntWalk.i64_in _ (by omega)
      have f20 : ((j : Int) + 20).toNat = j + 20 := by omega
      have g20 : (0 : Int) ≤ (j : Int) + 20 := by omega
      go_wp2
      go_still_tail 25, (by kernel_rfl)
      clear e5 e10 e15 e20 f5 f10 f15 f20 g5 g10 g15 g20
      change wpList _ _ _ _ _ wr.drew
      go_wp2
      go_roundw
      case rel =>
        (try ((repeat apply Exists.intro); refine ⟨?_, rfl⟩))
        refine ⟨j + 1, by omega, by go_num, ((hc.set j _).drew).congr fun i hi => ?_, gb_drew (gb_setb hg _) 1⟩
        show (if i = j then _ else _) = colZ s (j + 1) i
        unfold colZ
        by_cases e : i = j
        · subst e; rw [if_pos rfl, if_pos (by omega), ← colTo_val]
        · rw [if_neg e]
          by_cases h2 : i < j
          · rw [if_pos h2, if_pos (by omega)]
          · rw [if_neg h2, if_neg (by omega)]
      case measure => simp [intOf]; omega
    · obtain rfl : j = 5 := by omega
      go_wp2
      refine ⟨hc.congr fun i hi => ?_, hg⟩
      unfold colZ l64
      rw [if_pos hi]

end Go.Proofs.YtmfogngfdgpahaaDoor
