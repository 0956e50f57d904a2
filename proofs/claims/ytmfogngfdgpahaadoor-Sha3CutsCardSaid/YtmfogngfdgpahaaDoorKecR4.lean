/- The document's own permutation: chi. -/
import Derived.Test.YtmfogngfdgpahaaDoorKecR2
namespace Go.Proofs.YtmfogngfdgpahaaDoor
open Go.RowKit Go.Deep

def chN (b s : Nat → BitVec 64) (k i : Nat) : BitVec 64 := if i < k then chiS b i else s i
theorem chN_step (b s : Nat → BitVec 64) (k i : Nat) : chN b s (k + 1) i = if i = k then chiS b k else chN b s k i := by
  unfold chN
  by_cases e : i = k
  · subst e; rw [if_pos rfl, if_pos (by omega)]
  · rw [if_neg e]
    by_cases h : i < k
    · rw [if_pos h, if_pos (by omega)]
    · rw [if_neg h, if_neg (by omega)]
theorem i64w {z : Int} (h : -9223372036854775808 ≤ z ∧ z ≤ 9223372036854775807) : IntKind.i64.wrap z = z := IntWalk.i64_in _ h

set_option maxHeartbeats 16000000 in
set_option maxRecDepth 100000 in
theorem refP_chi {Q : Exit → Act → World → Prop} (ab bb : Nat) (s b : Nat → BitVec 64) {u0 u2 u3 u4 u5 u6 u7 u8 u9 u11 u12 u13 u14 u15 u16 u18 u19 u20 u21 u22 u23 u24 u25 u26 u27 u28 u29 u30 u31 u32 u33 u34 u35 u36 u37 u38 u39 u40 u41 u42 u43 u44 u45 u46 u47 u48 u49 u50 u51 u52 u53 u54 u55 u56 u57 u58 u59 u60 u61 u62 u63 u64 u65 u66 u67 u68 u69 u70 u71 u72 u73 u74 u75 u76 u77 u78 u79 u80 u81 u82 u83 u84 u85 u86 u87 u88 u89 u90 u91 u92 u93 u94 u95 u96 u97 u98 u99 u100 u101 u102 u103 u104 u105 u106 u107 u108 u109 u110 u111 u112 u113 u114 u115 u116 u117 u118 u119 u120 u121 u122 u123 u124 u125 u126 u127 u128 u129 u130 u131 u132 u133 u134 u135 u136 u137 u138 u139 u140 u141 u142 u143 u144 u145 u146 u147 u148 u149 u150 u151 u152 u153 u154 u155 u156 u157 u158 u159 u160 u161 u162 u163 u164 u165 u166 u167 u168 u169 u170 u171 u172 u173 u174 u175 u176 u177 u178 u179 u180 u181 u182 u183 u184 u185 u186 u187 u188 u189 u190 u191 u192 u193 u194 u195 u196 u197 u198 u199 u200 u201 u202 u203 u204 : Value} {wq : World} (hne : bb ≠ ab) (hA : wq.rowIs ab 34 25 (l64 s)) (hB : wq.rowIs bb 34 25 (l64 b))
    (hK : ∀ (x17 x18 x143 x144 x145 x146 x147 x148 x149 x150 x151 x152 x153 x154 x155 x156 x157 x158 x159 x160 x161 x162 x163 x164 x165 x166 x167 x168 x169 x170 x171 x172 x173 x174 x175 x176 x177 x178 x179 x180 : Value) (w' : World), (w'.rowIs ab 34 25 (l64 (chiS b)) ∧ wq.grownBy w' (some ab)) → Q (.exit 10) ⟨(List.toArray (u0 :: (.pointer (some ⟨ab, 0, none⟩)) :: u2 :: u3 :: u4 :: u5 :: u6 :: u7 :: u8 :: u9 :: (.pointer (some ⟨bb, 0, none⟩)) :: u11 :: u12 :: u13 :: u14 :: u15 :: u16 :: x17 :: x18 :: u19 :: u20 :: u21 :: u22 :: u23 :: u24 :: u25 :: u26 :: u27 :: u28 :: u29 :: u30 :: u31 :: u32 :: u33 :: u34 :: u35 :: u36 :: u37 :: u38 :: u39 :: u40 :: u41 :: u42 :: u43 :: u44 :: u45 :: u46 :: u47 :: u48 :: u49 :: u50 :: u51 :: u52 :: u53 :: u54 :: u55 :: u56 :: u57 :: u58 :: u59 :: u60 :: u61 :: u62 :: u63 :: u64 :: u65 :: u66 :: u67 :: u68 :: u69 :: u70 :: u71 :: u72 :: u73 :: u74 :: u75 :: u76 :: u77 :: u78 :: u79 :: u80 :: u81 :: u82 :: u83 :: u84 :: u85 :: u86 :: u87 :: u88 :: u89 :: u90 :: u91 :: u92 :: u93 :: u94 :: u95 :: u96 :: u97 :: u98 :: u99 :: u100 :: u101 :: u102 :: u103 :: u104 :: u105 :: u106 :: u107 :: u108 :: u109 :: u110 :: u111 :: u112 :: u113 :: u114 :: u115 :: u116 :: u117 :: u118 :: u119 :: u120 :: u121 :: u122 :: u123 :: u124 :: u125 :: u126 :: u127 :: u128 :: u129 :: u130 :: u131 :: u132 :: u133 :: u134 :: u135 :: u136 :: u137 :: u138 :: u139 :: u140 :: u141 :: u142 :: x143 :: x144 :: x145 :: x146 :: x147 :: x148 :: x149 :: x150 :: x151 :: x152 :: x153 :: x154 :: x155 :: x156 :: x157 :: x158 :: x159 :: x160 :: x161 :: x162 :: x163 :: x164 :: x165 :: x166 :: x167 :: x168 :: x169 :: x170 :: x171 :: x172 :: x173 :: x174 :: x175 :: x176 :: x177 :: x178 :: x179 :: x180 :: u181 :: u182 :: u183 :: u184 :: u185 :: u186 :: u187 :: u188 :: u189 :: u190 :: u191 :: u192 :: u193 :: u194 :: u195 :: u196 :: u197 :: u198 :: u199 :: u200 :: u201 :: u202 :: u203 :: u204 :: [])), []⟩ w') :
    Code.wp Tryd.prog (codeAt 10 Tryd.f19) Q ⟨(List.toArray (u0 :: (.pointer (some ⟨ab, 0, none⟩)) :: u2 :: u3 :: u4 :: u5 :: u6 :: u7 :: u8 :: u9 :: (.pointer (some ⟨bb, 0, none⟩)) :: u11 :: u12 :: u13 :: u14 :: u15 :: u16 :: (.int .i64 (0 : Int)) :: u18 :: u19 :: u20 :: u21 :: u22 :: u23 :: u24 :: u25 :: u26 :: u27 :: u28 :: u29 :: u30 :: u31 :: u32 :: u33 :: u34 :: u35 :: u36 :: u37 :: u38 :: u39 :: u40 :: u41 :: u42 :: u43 :: u44 :: u45 :: u46 :: u47 :: u48 :: u49 :: u50 :: u51 :: u52 :: u53 :: u54 :: u55 :: u56 :: u57 :: u58 :: u59 :: u60 :: u61 :: u62 :: u63 :: u64 :: u65 :: u66 :: u67 :: u68 :: u69 :: u70 :: u71 :: u72 :: u73 :: u74 :: u75 :: u76 :: u77 :: u78 :: u79 :: u80 :: u81 :: u82 :: u83 :: u84 :: u85 :: u86 :: u87 :: u88 :: u89 :: u90 :: u91 :: u92 :: u93 :: u94 :: u95 :: u96 :: u97 :: u98 :: u99 :: u100 :: u101 :: u102 :: u103 :: u104 :: u105 :: u106 :: u107 :: u108 :: u109 :: u110 :: u111 :: u112 :: u113 :: u114 :: u115 :: u116 :: u117 :: u118 :: u119 :: u120 :: u121 :: u122 :: u123 :: u124 :: u125 :: u126 :: u127 :: u128 :: u129 :: u130 :: u131 :: u132 :: u133 :: u134 :: u135 :: u136 :: u137 :: u138 :: u139 :: u140 :: u141 :: u142 :: u143 :: u144 :: u145 :: u146 :: u147 :: u148 :: u149 :: u150 :: u151 :: u152 :: u153 :: u154 :: u155 :: u156 :: u157 :: u158 :: u159 :: u160 :: u161 :: u162 :: u163 :: u164 :: u165 :: u166 :: u167 :: u168 :: u169 :: u170 :: u171 :: u172 :: u173 :: u174 :: u175 :: u176 :: u177 :: u178 :: u179 :: u180 :: u181 :: u182 :: u183 :: u184 :: u185 :: u186 :: u187 :: u188 :: u189 :: u190 :: u191 :: u192 :: u193 :: u194 :: u195 :: u196 :: u197 :: u198 :: u199 :: u200 :: u201 :: u202 :: u203 :: u204 :: [])), []⟩ wq := by
  conv => arg 2; whnf
  go_loopw [17] (fun i wr => ∃ y : Nat, y ≤ 5 ∧ i = .int .i64 y ∧ wr.rowIs ab 34 25 (l64 (chN b s (5 * y))) ∧ wq.grownBy wr (some ab)) (fun i _ => 5 - (intOf i).toNat)
  case atStart => exact ⟨0, Nat.zero_le _, rfl, hA.congr fun i _ => by unfold l64 chN; rw [if_neg (by omega)], grownBy_refl _ _⟩
  case round =>
    clear hA
    obtain ⟨y, hy, rfl, ha, hg⟩ := hrel
    by_cases hlt : y < 5
    · clear hK
      have b1 : (y : Int) < 5 := by omega
      go_wp2
      go_loopw [18] (fun i wr => ∃ x : Nat, x ≤ 5 ∧ i = .int .i64 x ∧ wr.rowIs ab 34 25 (l64 (chN b s (5 * y + x))) ∧ wq.grownBy wr (some ab)) (fun i _ => 5 - (intOf i).toNat)
      case atStart => exact ⟨0, Nat.zero_le _, rfl, ha, hg⟩
      case round =>
        clear ha hg
        obtain ⟨x, hx, rfl, ha, hg⟩ := hrel
        have hb := gb_rowIs hB hg hne
        by_cases hlt2 : x < 5
        · clear hB
          obtain ⟨x1, hx1⟩ : ∃ x1, x1 = (x + 1) % 5 := ⟨_, rfl⟩
          obtain ⟨x2, hx2⟩ : ∃ x2, x2 = (x + 2) % 5 := ⟨_, rfl⟩
          have c0 := hb.cell (i := x + 5 * y) (by omega)
          have c1 := hb.cell (i := x1 + 5 * y) (by omega)
          have c2 := hb.cell (i := x2 + 5 * y) (by omega)
          have cc := ha.cell (i := x + 5 * y) (by omega)
          have hfr := ha.frozen (x + 5 * y)
          have hch := chiS_at b y x hlt2
          rw [← hx1, ← hx2] at hch
          have HCH := Lib.hid hch
          unfold l64 at c0 c1 c2 cc
          have hs : IntKind.u64.signed = false := rfl
          have u0 : (x : Int) < 5 := by omega
          have u1 : (x1 : Int) < 5 := by omega
          have u2 : (x2 : Int) < 5 := by omega
          have v0 : (x : Int) + 5 * (y : Int) < 25 := by omega
          have v1 : (x1 : Int) + 5 * (y : Int) < 25 := by omega
          have v2 : (x2 : Int) + 5 * (y : Int) < 25 := by omega
          have z0 : (0 : Int) ≤ (x : Int) + 5 * (y : Int) := by omega
          have z1 : (0 : Int) ≤ (x1 : Int) + 5 * (y : Int) := by omega
          have z2 : (0 : Int) ≤ (x2 : Int) + 5 * (y : Int) := by omega
          have d0 : ((x : Int) + 5 * (y : Int)).toNat = x + 5 * y := by omega
          have d1 : ((x1 : Int) + 5 * (y : Int)).toNat = x1 + 5 * y := by omega
          have d2 : ((x2 : Int) + 5 * (y : Int)).toNat = x2 + 5 * y := by omega
          have w5 : IntKind.i64.wrap (5 * (y : Int)) = 5 * (y : Int) := i64w (by omega)
          have w1 : IntKind.i64.wrap ((x : Int) + 1) = (x : Int) + 1 := i64w (by omega)
          have w2 : IntKind.i64.wrap ((x : Int) + 2) = (x : Int) + 2 := i64w (by omega)
          have a0 : IntKind.i64.wrap ((x : Int) + 5 * (y : Int)) = (x : Int) + 5 * (y : Int) := i64w (by omega)
          have a1 : IntKind.i64.wrap ((x1 : Int) + 5 * (y : Int)) = (x1 : Int) + 5 * (y : Int) := i64w (by omega)
          have a2 : IntKind.i64.wrap ((x2 : Int) + 5 * (y : Int)) = (x2 : Int) + 5 * (y : Int) := i64w (by omega)
          have m1 : ((x : Int) + 1).tmod 5 = (x1 : Int) := by rw [Int.tmod_eq_emod_of_nonneg (by omega)]; omega
          have m2 : ((x : Int) + 2).tmod 5 = (x2 : Int) := by rw [Int.tmod_eq_emod_of_nonneg (by omega)]; omega
          clear hx1 hx2 hch
          go_wp2
          go_still_tail 30, (by kernel_rfl)
          clear a0 a1 a2 m1 m2 w1 w2 w5 d0 d1 d2 z1 z2 v1 v2 u1 u2
          change wpList _ _ _ _ _ wr.drew
          go_wp2
          go_roundw
          case rel =>
            (try ((repeat apply Exists.intro); refine ⟨?_, rfl⟩))
            refine ⟨x + 1, by omega, by go_num, ((ha.set (x + 5 * y) _).drew).congr fun i hi => ?_, gb_drew (gb_setb hg _) 1⟩
            show (if i = x + 5 * y then _ else _) = _
            unfold l64
            rw [← Nat.add_assoc, chN_step, HCH.out]
            by_cases e : i = x + 5 * y
            · rw [if_pos e, if_pos (by omega), chi_val, Nat.add_comm x, Nat.add_comm x1, Nat.add_comm x2]
            · rw [if_neg e, if_neg (by omega)]
          case measure => simp [intOf]; omega
        · obtain rfl : x = 5 := by omega
          go_wp2
          go_roundw
          case rel =>
            (try ((repeat apply Exists.intro); refine ⟨?_, rfl⟩))
            exact ⟨y + 1, by omega, by go_num, ha, hg⟩
          case measure => simp [intOf]; omega
    · obtain rfl : y = 5 := by omega
      go_wp2
      refine ⟨ha.congr fun i hi => ?_, hg⟩
      unfold l64 chN
      rw [if_pos (by omega)]

end Go.Proofs.YtmfogngfdgpahaaDoor
