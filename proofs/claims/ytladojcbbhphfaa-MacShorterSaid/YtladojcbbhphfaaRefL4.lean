/- The document's sums: the first sixteen words of a block. -/
import Derived.Test.YtladojcbbhphfaaRefLaws
namespace Go.Proofs.Ytladojcbbhphfaa
open Go.RowKit Go.Deep

set_option maxHeartbeats 16000000 in
set_option maxRecDepth 100000 in
theorem ref256_L4 {Q : Exit → Act → World → Prop} (w3 : World) (hb wb T c3 q : Nat) (a3 : Option Addr) (M : List UInt8) (W : Nat → BitVec 32) (st : Nat → BitVec 32) {u0 u1 u2 u3 u4 u5 u6 u11 u12 u13 u14 u15 u16 u17 u18 u19 u20 u21 u22 u23 u24 u25 u26 u27 u28 u29 u30 u31 u32 u33 u34 u35 u36 u37 u38 u39 u40 u41 u42 u43 u44 u45 u46 u47 u48 u49 u50 u51 u52 u53 u54 u55 u56 u57 u58 u59 u60 u61 u62 u63 u64 u65 u66 u67 u68 u69 u70 u71 u72 u73 u74 u75 u76 u77 u78 u79 u80 u81 u82 u83 u84 u85 u86 u87 u88 u89 u90 u91 u92 u93 u94 u95 u96 u97 u98 u99 u100 u101 u102 u103 u104 u105 u106 u107 u108 u109 u110 u111 u112 u113 u114 u115 u116 u117 u118 u119 u120 u121 u122 u123 u124 u125 u126 u127 u128 u129 u130 u131 u132 u133 u134 u135 u136 u137 u138 u139 u140 u141 u142 u143 u144 u145 u146 u147 u148 u149 u150 u151 u152 u153 u154 u155 u156 u157 u158 u159 u160 u161 u162 u163 u164 u165 u166 u167 u168 u169 u170 u171 u172 u173 u174 u175 u176 u177 u178 u179 u180 u181 u182 u183 u184 u185 u186 u187 u188 u189 u190 u191 u192 u193 u194 u195 u196 u197 u198 u199 u200 u201 u202 u203 u204 u205 u206 u207 u208 u209 u210 u211 u212 u213 u214 u215 u216 u217 u218 u219 u220 u221 u222 u223 u224 u225 u226 u227 u228 u229 u230 u231 u232 u233 u234 u235 u236 u237 u238 u239 u240 u241 u242 : Value} {wq : World} (hT : T < 2 ^ 31) (hq : q + 64 ≤ T) (hB3 : Hid (Bs w3 (.slice a3 T c3) M)) (hA3 : Away (.slice a3 T c3) hb) (hwb : w3.heap.size ≤ wb) (hwn : hb ≠ wb) (HW16 : Hid (∀ t, t < 16 → W t = BitVec.ofNat 32 (numB ((M.drop (q + 4 * t)).take 4) 4)))
    (hW0 : wq.rowIs wb 57 64 (fun _ => .int .u32 0)) (hH0 : wq.rowIs hb 54 8 (w32 st)) (hg0 : w3.grownBy wq (some hb))
    (hK : ∀ (x10 x61 x62 x63 x64 x65 x66 x67 x68 x69 x70 x71 x72 x73 x74 x75 x76 x77 x78 x79 : Value) (w' : World), (w'.rowIs wb 57 64 (fun i => .int .u32 (if i < 16 then ((W i).toNat : Int) else 0)) ∧ w'.rowIs hb 54 8 (w32 st) ∧ w3.grownBy w' (some hb)) → Q (.exit 6) ⟨(List.toArray (u0 :: u1 :: u2 :: u3 :: u4 :: u5 :: u6 :: (.slice a3 T c3) :: (.int .i64 (q : Int)) :: (.pointer (some ⟨wb, 0, none⟩)) :: x10 :: u11 :: u12 :: u13 :: u14 :: u15 :: u16 :: u17 :: u18 :: u19 :: u20 :: u21 :: u22 :: u23 :: u24 :: u25 :: u26 :: u27 :: u28 :: u29 :: u30 :: u31 :: u32 :: u33 :: u34 :: u35 :: u36 :: u37 :: u38 :: u39 :: u40 :: u41 :: u42 :: u43 :: u44 :: u45 :: u46 :: u47 :: u48 :: u49 :: u50 :: u51 :: u52 :: u53 :: u54 :: u55 :: u56 :: u57 :: u58 :: u59 :: u60 :: x61 :: x62 :: x63 :: x64 :: x65 :: x66 :: x67 :: x68 :: x69 :: x70 :: x71 :: x72 :: x73 :: x74 :: x75 :: x76 :: x77 :: x78 :: x79 :: u80 :: u81 :: u82 :: u83 :: u84 :: u85 :: u86 :: u87 :: u88 :: u89 :: u90 :: u91 :: u92 :: u93 :: u94 :: u95 :: u96 :: u97 :: u98 :: u99 :: u100 :: u101 :: u102 :: u103 :: u104 :: u105 :: u106 :: u107 :: u108 :: u109 :: u110 :: u111 :: u112 :: u113 :: u114 :: u115 :: u116 :: u117 :: u118 :: u119 :: u120 :: u121 :: u122 :: u123 :: u124 :: u125 :: u126 :: u127 :: u128 :: u129 :: u130 :: u131 :: u132 :: u133 :: u134 :: u135 :: u136 :: u137 :: u138 :: u139 :: u140 :: u141 :: u142 :: u143 :: u144 :: u145 :: u146 :: u147 :: u148 :: u149 :: u150 :: u151 :: u152 :: u153 :: u154 :: u155 :: u156 :: u157 :: u158 :: u159 :: u160 :: u161 :: u162 :: u163 :: u164 :: u165 :: u166 :: u167 :: u168 :: u169 :: u170 :: u171 :: u172 :: u173 :: u174 :: u175 :: u176 :: u177 :: u178 :: u179 :: u180 :: u181 :: u182 :: u183 :: u184 :: u185 :: u186 :: u187 :: u188 :: u189 :: u190 :: u191 :: u192 :: u193 :: u194 :: u195 :: u196 :: u197 :: u198 :: u199 :: u200 :: u201 :: u202 :: u203 :: u204 :: u205 :: u206 :: u207 :: u208 :: u209 :: u210 :: u211 :: u212 :: u213 :: u214 :: u215 :: u216 :: u217 :: u218 :: u219 :: u220 :: u221 :: u222 :: u223 :: u224 :: u225 :: u226 :: u227 :: u228 :: u229 :: u230 :: u231 :: u232 :: u233 :: u234 :: u235 :: u236 :: u237 :: u238 :: u239 :: u240 :: u241 :: u242 :: [])), []⟩ w') :
    Code.wp Try.prog (codeAt 6 Try.f18) Q ⟨(List.toArray (u0 :: u1 :: u2 :: u3 :: u4 :: u5 :: u6 :: (.slice a3 T c3) :: (.int .i64 (q : Int)) :: (.pointer (some ⟨wb, 0, none⟩)) :: (.int .i64 (0 : Int)) :: u11 :: u12 :: u13 :: u14 :: u15 :: u16 :: u17 :: u18 :: u19 :: u20 :: u21 :: u22 :: u23 :: u24 :: u25 :: u26 :: u27 :: u28 :: u29 :: u30 :: u31 :: u32 :: u33 :: u34 :: u35 :: u36 :: u37 :: u38 :: u39 :: u40 :: u41 :: u42 :: u43 :: u44 :: u45 :: u46 :: u47 :: u48 :: u49 :: u50 :: u51 :: u52 :: u53 :: u54 :: u55 :: u56 :: u57 :: u58 :: u59 :: u60 :: u61 :: u62 :: u63 :: u64 :: u65 :: u66 :: u67 :: u68 :: u69 :: u70 :: u71 :: u72 :: u73 :: u74 :: u75 :: u76 :: u77 :: u78 :: u79 :: u80 :: u81 :: u82 :: u83 :: u84 :: u85 :: u86 :: u87 :: u88 :: u89 :: u90 :: u91 :: u92 :: u93 :: u94 :: u95 :: u96 :: u97 :: u98 :: u99 :: u100 :: u101 :: u102 :: u103 :: u104 :: u105 :: u106 :: u107 :: u108 :: u109 :: u110 :: u111 :: u112 :: u113 :: u114 :: u115 :: u116 :: u117 :: u118 :: u119 :: u120 :: u121 :: u122 :: u123 :: u124 :: u125 :: u126 :: u127 :: u128 :: u129 :: u130 :: u131 :: u132 :: u133 :: u134 :: u135 :: u136 :: u137 :: u138 :: u139 :: u140 :: u141 :: u142 :: u143 :: u144 :: u145 :: u146 :: u147 :: u148 :: u149 :: u150 :: u151 :: u152 :: u153 :: u154 :: u155 :: u156 :: u157 :: u158 :: u159 :: u160 :: u161 :: u162 :: u163 :: u164 :: u165 :: u166 :: u167 :: u168 :: u169 :: u170 :: u171 :: u172 :: u173 :: u174 :: u175 :: u176 :: u177 :: u178 :: u179 :: u180 :: u181 :: u182 :: u183 :: u184 :: u185 :: u186 :: u187 :: u188 :: u189 :: u190 :: u191 :: u192 :: u193 :: u194 :: u195 :: u196 :: u197 :: u198 :: u199 :: u200 :: u201 :: u202 :: u203 :: u204 :: u205 :: u206 :: u207 :: u208 :: u209 :: u210 :: u211 :: u212 :: u213 :: u214 :: u215 :: u216 :: u217 :: u218 :: u219 :: u220 :: u221 :: u222 :: u223 :: u224 :: u225 :: u226 :: u227 :: u228 :: u229 :: u230 :: u231 :: u232 :: u233 :: u234 :: u235 :: u236 :: u237 :: u238 :: u239 :: u240 :: u241 :: u242 :: [])), []⟩ wq := by
  conv => arg 2; whnf
  go_loopw [10] (fun i wr => ∃ t : Nat, t ≤ 16 ∧ i = .int .i64 t ∧ wr.rowIs wb 57 64 (fun i => .int .u32 (if i < t then ((W i).toNat : Int) else 0)) ∧
    wr.rowIs hb 54 8 (w32 st) ∧ w3.grownBy wr (some hb)) (fun i _ => 16 - (intOf i).toNat)
  case atStart => exact ⟨0, Nat.zero_le _, rfl, hW0.congr fun i _ => rfl, hH0, hg0⟩
  case round =>
    clear hW0 hH0 hg0
    obtain ⟨t, ht, rfl, hWr, hH, hg⟩ := hrel
    by_cases hlt4 : t < 16
    · have HBq := Lib.hid (gb_bs hB3.out hg hA3)
      have hcell := hWr.cell (i := t) (by omega)
      have hfr := hWr.frozen t
      have ht16 : (t : Int) < 64 := by omega
      have hnum : IntKind.u32.wrap ((numB ((M.drop (q + 4 * t)).take 4) 4 : Nat) : Int) = ((W t).toNat : Int) := by
        rw [HW16.out t hlt4, ← numB_w32]
        exact IntWalk.u32_in _ ⟨by omega, by have := numB_4 ((M.drop (q + 4 * t)).take 4); omega⟩
      clear hK
      go_wp2_with (first
        | (refine wpList_bsCut rfl (.tmp 66) (.tmp 70) (.tmp 75) rfl HBq.out (q + 4 * t) (q + 4 * t + 4) rfl rfl (by omega) rfl (by omega) (by omega) (by omega) 4 (by omega) ?_; intro ad' hB'
           have HB' := Lib.hid hB'
           clear hB')
        | (go_at_call 30; refine (getBig_any _ _ 4 _ HB'.out (by omega) (by omega)).mono ?_; rintro e w' ⟨rfl, rfl⟩))
      go_roundw
      case rel =>
        refine ⟨t + 1, by omega, by go_num, (hWr.set t _).congr fun i hi => ?_, hH.setOther hwn _, gb_set hg hwb _⟩
        show (if i = t then _ else _) = _
        by_cases e : i = t
        · subst e
          rw [if_pos rfl, if_pos (by omega)]
          try (first | rfl | exact congrArg (Value.int .u32) hnum)
        · rw [if_neg e]
          by_cases h2 : i < t
          · rw [if_pos h2, if_pos (by omega)]
          · rw [if_neg h2, if_neg (by omega)]
      case measure => simp [intOf]; omega
    · obtain rfl : t = 16 := by omega
      go_wp2
      exact ⟨hWr, hH, hg⟩

end Go.Proofs.Ytladojcbbhphfaa
