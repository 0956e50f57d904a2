/- The document's sums: the rounds. -/
import Derived.Test.YtladojcbbhphfaaRefLaws
namespace Go.Proofs.Ytladojcbbhphfaa
open Go.RowKit Go.Deep

set_option maxHeartbeats 16000000 in
set_option maxRecDepth 100000 in
theorem ref256_L6 {Q : Exit → Act → World → Prop} (w3 : World) (rb hb wb vb : Nat) (W : Nat → BitVec 32) (s0 : S8 32) {u0 u1 u2 u4 u5 u6 u7 u8 u10 u11 u12 u13 u16 u17 u18 u19 u20 u21 u22 u23 u24 u25 u26 u27 u28 u29 u30 u31 u32 u33 u34 u35 u36 u37 u38 u39 u40 u41 u42 u43 u44 u45 u46 u47 u48 u49 u50 u51 u52 u53 u54 u55 u56 u57 u58 u59 u60 u61 u62 u63 u64 u65 u66 u67 u68 u69 u70 u71 u72 u73 u74 u75 u76 u77 u78 u79 u80 u81 u82 u83 u84 u85 u86 u87 u88 u89 u90 u91 u92 u93 u94 u95 u96 u97 u98 u99 u100 u101 u102 u103 u104 u105 u106 u107 u108 u109 u110 u111 u112 u113 u114 u115 u116 u117 u118 u119 u120 u121 u122 u123 u124 u125 u126 u127 u128 u129 u130 u131 u132 u133 u134 u135 u136 u137 u138 u139 u140 u141 u142 u143 u144 u145 u146 u147 u148 u149 u150 u151 u152 u153 u154 u155 u156 u157 u158 u159 u160 u161 u162 u163 u164 u165 u166 u167 u168 u169 u170 u171 u172 u173 u174 u175 u176 u177 u178 u179 u180 u181 u182 u183 u184 u185 u186 u187 u188 u189 u190 u191 u192 u193 u194 u195 u196 u197 u198 u199 u200 u201 u202 u203 u204 u205 u206 u207 u208 u209 u210 u211 u212 u213 u214 u215 u216 u217 u218 u219 u220 u221 u222 u223 u224 u225 u226 u227 u228 u229 u230 u231 u232 u233 u234 u235 u236 u237 u238 u239 u240 u241 u242 : Value} {wq : World} (hvb : w3.heap.size ≤ vb) (hvn : hb ≠ vb) (hwv : wb ≠ vb) (hrv : rb ≠ vb)
    (hV0 : wq.rowIs vb 54 8 (w32 s0.at)) (hW0 : wq.rowIs wb 57 64 (w32 W)) (hR0 : wq.rowIs rb 49 80 (w64 K64)) (hH0 : wq.rowIs hb 54 8 (w32 s0.at)) (hg0 : w3.grownBy wq (some hb))
    (hK : ∀ (x15 x16 x17 x18 x19 x134 x135 x136 x137 x138 x139 x140 x141 x142 x143 x144 x145 x146 x147 x148 x149 x150 x151 x152 x153 x154 x155 x156 x157 x158 x159 x160 x161 x162 x163 x164 x165 x166 x167 x168 x169 x170 x171 x172 x173 x174 x175 x176 x177 x178 x179 x180 x181 x182 x183 x184 x185 x186 x187 x188 x189 x190 x191 x192 x193 x194 x195 x196 x197 x198 x199 x200 x201 x202 x203 x204 x205 x206 x207 x208 x209 x210 x211 x212 x213 x214 x215 x216 x217 : Value) (w' : World), (w'.rowIs vb 54 8 (w32 (k256.rnd W s0 64).at) ∧ w'.rowIs wb 57 64 (w32 W) ∧ w'.rowIs rb 49 80 (w64 K64) ∧ w'.rowIs hb 54 8 (w32 s0.at) ∧ w3.grownBy w' (some hb)) → Q (.exit 10) ⟨(List.toArray (u0 :: u1 :: u2 :: (.pointer (some ⟨rb, 0, none⟩)) :: u4 :: u5 :: u6 :: u7 :: u8 :: (.pointer (some ⟨wb, 0, none⟩)) :: u10 :: u11 :: u12 :: u13 :: (.pointer (some ⟨vb, 0, none⟩)) :: x15 :: x16 :: x17 :: x18 :: x19 :: u20 :: u21 :: u22 :: u23 :: u24 :: u25 :: u26 :: u27 :: u28 :: u29 :: u30 :: u31 :: u32 :: u33 :: u34 :: u35 :: u36 :: u37 :: u38 :: u39 :: u40 :: u41 :: u42 :: u43 :: u44 :: u45 :: u46 :: u47 :: u48 :: u49 :: u50 :: u51 :: u52 :: u53 :: u54 :: u55 :: u56 :: u57 :: u58 :: u59 :: u60 :: u61 :: u62 :: u63 :: u64 :: u65 :: u66 :: u67 :: u68 :: u69 :: u70 :: u71 :: u72 :: u73 :: u74 :: u75 :: u76 :: u77 :: u78 :: u79 :: u80 :: u81 :: u82 :: u83 :: u84 :: u85 :: u86 :: u87 :: u88 :: u89 :: u90 :: u91 :: u92 :: u93 :: u94 :: u95 :: u96 :: u97 :: u98 :: u99 :: u100 :: u101 :: u102 :: u103 :: u104 :: u105 :: u106 :: u107 :: u108 :: u109 :: u110 :: u111 :: u112 :: u113 :: u114 :: u115 :: u116 :: u117 :: u118 :: u119 :: u120 :: u121 :: u122 :: u123 :: u124 :: u125 :: u126 :: u127 :: u128 :: u129 :: u130 :: u131 :: u132 :: u133 :: x134 :: x135 :: x136 :: x137 :: x138 :: x139 :: x140 :: x141 :: x142 :: x143 :: x144 :: x145 :: x146 :: x147 :: x148 :: x149 :: x150 :: x151 :: x152 :: x153 :: x154 :: x155 :: x156 :: x157 :: x158 :: x159 :: x160 :: x161 :: x162 :: x163 :: x164 :: x165 :: x166 :: x167 :: x168 :: x169 :: x170 :: x171 :: x172 :: x173 :: x174 :: x175 :: x176 :: x177 :: x178 :: x179 :: x180 :: x181 :: x182 :: x183 :: x184 :: x185 :: x186 :: x187 :: x188 :: x189 :: x190 :: x191 :: x192 :: x193 :: x194 :: x195 :: x196 :: x197 :: x198 :: x199 :: x200 :: x201 :: x202 :: x203 :: x204 :: x205 :: x206 :: x207 :: x208 :: x209 :: x210 :: x211 :: x212 :: x213 :: x214 :: x215 :: x216 :: x217 :: u218 :: u219 :: u220 :: u221 :: u222 :: u223 :: u224 :: u225 :: u226 :: u227 :: u228 :: u229 :: u230 :: u231 :: u232 :: u233 :: u234 :: u235 :: u236 :: u237 :: u238 :: u239 :: u240 :: u241 :: u242 :: [])), []⟩ w') :
    Code.wp Try.prog (codeAt 10 Try.f18) Q ⟨(List.toArray (u0 :: u1 :: u2 :: (.pointer (some ⟨rb, 0, none⟩)) :: u4 :: u5 :: u6 :: u7 :: u8 :: (.pointer (some ⟨wb, 0, none⟩)) :: u10 :: u11 :: u12 :: u13 :: (.pointer (some ⟨vb, 0, none⟩)) :: (.int .i64 (0 : Int)) :: u16 :: u17 :: u18 :: u19 :: u20 :: u21 :: u22 :: u23 :: u24 :: u25 :: u26 :: u27 :: u28 :: u29 :: u30 :: u31 :: u32 :: u33 :: u34 :: u35 :: u36 :: u37 :: u38 :: u39 :: u40 :: u41 :: u42 :: u43 :: u44 :: u45 :: u46 :: u47 :: u48 :: u49 :: u50 :: u51 :: u52 :: u53 :: u54 :: u55 :: u56 :: u57 :: u58 :: u59 :: u60 :: u61 :: u62 :: u63 :: u64 :: u65 :: u66 :: u67 :: u68 :: u69 :: u70 :: u71 :: u72 :: u73 :: u74 :: u75 :: u76 :: u77 :: u78 :: u79 :: u80 :: u81 :: u82 :: u83 :: u84 :: u85 :: u86 :: u87 :: u88 :: u89 :: u90 :: u91 :: u92 :: u93 :: u94 :: u95 :: u96 :: u97 :: u98 :: u99 :: u100 :: u101 :: u102 :: u103 :: u104 :: u105 :: u106 :: u107 :: u108 :: u109 :: u110 :: u111 :: u112 :: u113 :: u114 :: u115 :: u116 :: u117 :: u118 :: u119 :: u120 :: u121 :: u122 :: u123 :: u124 :: u125 :: u126 :: u127 :: u128 :: u129 :: u130 :: u131 :: u132 :: u133 :: u134 :: u135 :: u136 :: u137 :: u138 :: u139 :: u140 :: u141 :: u142 :: u143 :: u144 :: u145 :: u146 :: u147 :: u148 :: u149 :: u150 :: u151 :: u152 :: u153 :: u154 :: u155 :: u156 :: u157 :: u158 :: u159 :: u160 :: u161 :: u162 :: u163 :: u164 :: u165 :: u166 :: u167 :: u168 :: u169 :: u170 :: u171 :: u172 :: u173 :: u174 :: u175 :: u176 :: u177 :: u178 :: u179 :: u180 :: u181 :: u182 :: u183 :: u184 :: u185 :: u186 :: u187 :: u188 :: u189 :: u190 :: u191 :: u192 :: u193 :: u194 :: u195 :: u196 :: u197 :: u198 :: u199 :: u200 :: u201 :: u202 :: u203 :: u204 :: u205 :: u206 :: u207 :: u208 :: u209 :: u210 :: u211 :: u212 :: u213 :: u214 :: u215 :: u216 :: u217 :: u218 :: u219 :: u220 :: u221 :: u222 :: u223 :: u224 :: u225 :: u226 :: u227 :: u228 :: u229 :: u230 :: u231 :: u232 :: u233 :: u234 :: u235 :: u236 :: u237 :: u238 :: u239 :: u240 :: u241 :: u242 :: [])), []⟩ wq := by
  conv => arg 2; whnf
  go_loopw [15] (fun i wr => ∃ (t : Nat) (s' : S8 32), t ≤ 64 ∧ Hid (s' = k256.rnd W s0 t) ∧ i = .int .i64 t ∧ wr.rowIs vb 54 8 (w32 s'.at) ∧ wr.rowIs wb 57 64 (w32 W) ∧
    wr.rowIs rb 49 80 (w64 K64) ∧ wr.rowIs hb 54 8 (w32 s0.at) ∧ w3.grownBy wr (some hb)) (fun i _ => 64 - (intOf i).toNat)
  case atStart => exact ⟨0, s0, by omega, rfl, rfl, hV0, hW0, hR0, hH0, hg0⟩
  case round =>
    clear hV0 hW0 hR0 hH0 hg0
    obtain ⟨t, s', ht, HS, rfl, hV, hWr, hRr, hH, hg⟩ := hrel
    by_cases hlt6 : t < 64
    · clear hK
      have v0 : wr.cell? ⟨vb, 0, none⟩ = some (.int .u32 (s'.a.toNat : Int)) := hV.cell (i := 0) (by omega)
      have v1 : wr.cell? ⟨vb, 1, none⟩ = some (.int .u32 (s'.b.toNat : Int)) := hV.cell (i := 1) (by omega)
      have v2 : wr.cell? ⟨vb, 2, none⟩ = some (.int .u32 (s'.c.toNat : Int)) := hV.cell (i := 2) (by omega)
      have v3 : wr.cell? ⟨vb, 3, none⟩ = some (.int .u32 (s'.d.toNat : Int)) := hV.cell (i := 3) (by omega)
      have v4 : wr.cell? ⟨vb, 4, none⟩ = some (.int .u32 (s'.e.toNat : Int)) := hV.cell (i := 4) (by omega)
      have v5 : wr.cell? ⟨vb, 5, none⟩ = some (.int .u32 (s'.f.toNat : Int)) := hV.cell (i := 5) (by omega)
      have v6 : wr.cell? ⟨vb, 6, none⟩ = some (.int .u32 (s'.g.toNat : Int)) := hV.cell (i := 6) (by omega)
      have v7 : wr.cell? ⟨vb, 7, none⟩ = some (.int .u32 (s'.h.toNat : Int)) := hV.cell (i := 7) (by omega)
      have cw : wr.cell? ⟨wb, t, none⟩ = some (.int .u32 ((W t).toNat : Int)) := hWr.cell (by omega)
      have ck : wr.cell? ⟨rb, t, none⟩ = some (.int .u64 ((K64 t).toNat : Int)) := hRr.cell (by omega)
      have b2 : (t : Int) < 64 := by omega
      have b3 : (t : Int) < 80 := by omega
      have hs : IntKind.u32.signed = false := rfl
      have hs2 : IntKind.u64.signed = false := rfl
      go_wp2
      go_quiet ((go_at_call 31; exact Calls.quiet_of (rot32_lit _ _ _ (by omega) (by omega))))
      clear v0 v1 v2 v3 v4 v5 v6 v7 cw ck
      replace hWr : (wr.drewN nq).rowIs wb 57 64 _ := hWr
      replace hH : (wr.drewN nq).rowIs hb 54 8 _ := hH
      replace hV : (wr.drewN nq).rowIs vb 54 8 _ := hV
      replace hRr : (wr.drewN nq).rowIs rb 49 80 _ := hRr
      replace hg := gb_drew hg nq
      generalize wr.drewN nq = wz at hWr hH hV hRr hg ⊢
      have v0 : wz.cell? ⟨vb, 0, none⟩ = some (.int .u32 (s'.a.toNat : Int)) := hV.cell (i := 0) (by omega)
      have v1 : wz.cell? ⟨vb, 1, none⟩ = some (.int .u32 (s'.b.toNat : Int)) := hV.cell (i := 1) (by omega)
      have v2 : wz.cell? ⟨vb, 2, none⟩ = some (.int .u32 (s'.c.toNat : Int)) := hV.cell (i := 2) (by omega)
      have v3 : wz.cell? ⟨vb, 3, none⟩ = some (.int .u32 (s'.d.toNat : Int)) := hV.cell (i := 3) (by omega)
      have v4 : wz.cell? ⟨vb, 4, none⟩ = some (.int .u32 (s'.e.toNat : Int)) := hV.cell (i := 4) (by omega)
      have v5 : wz.cell? ⟨vb, 5, none⟩ = some (.int .u32 (s'.f.toNat : Int)) := hV.cell (i := 5) (by omega)
      have v6 : wz.cell? ⟨vb, 6, none⟩ = some (.int .u32 (s'.g.toNat : Int)) := hV.cell (i := 6) (by omega)
      have v7 : wz.cell? ⟨vb, 7, none⟩ = some (.int .u32 (s'.h.toNat : Int)) := hV.cell (i := 7) (by omega)
      obtain ⟨tt, htt⟩ : ∃ tt : BitVec 32, tt = W t + (s'.h + tri s'.e 6 11 25 + chz s'.e s'.f s'.g + K32 t) := ⟨_, rfl⟩
      have ett := ref_t32 (W t) s'.h (tri s'.e 6 11 25) (chz s'.e s'.f s'.g) t
      have ht1 := tri_val32 s'.e
      have ht3 := chz_val32 s'.e s'.f s'.g
      rw [ht1, ht3]
      rw [← htt] at ett
      rw [ett]
      have HTT := Lib.hid htt
      clear htt ett ht1 ht3
      go_wp2
      go_quiet ((go_at_call 31; exact Calls.quiet_of (rot32_lit _ _ _ (by omega) (by omega))))
      obtain ⟨uu, huu⟩ : ∃ uu : BitVec 32, uu = tri s'.a 2 13 22 + maj s'.a s'.b s'.c := ⟨_, rfl⟩
      have euu := ref_u32 (tri s'.a 2 13 22) (maj s'.a s'.b s'.c)
      have ht2 := tri_val32 s'.a
      have ht4 := maj_val32 s'.a s'.b s'.c
      rw [ht2, ht4]
      rw [← huu] at euu
      rw [euu]
      have HUU := Lib.hid huu
      clear huu euu ht2 ht4
      clear v7
      replace hWr : (wz.drewN nq).rowIs wb 57 64 _ := hWr
      replace hH : (wz.drewN nq).rowIs hb 54 8 _ := hH
      replace hV : (wz.drewN nq).rowIs vb 54 8 _ := hV
      replace hRr : (wz.drewN nq).rowIs rb 49 80 _ := hRr
      replace hg := gb_drew hg nq
      generalize wz.drewN nq = wy at hWr hH hV hRr hg ⊢
      clear v0 v1 v2 v3 v4 v5 v6
      have v0 : wy.cell? ⟨vb, 0, none⟩ = some (.int .u32 (s'.a.toNat : Int)) := hV.cell (i := 0) (by omega)
      have v1 : wy.cell? ⟨vb, 1, none⟩ = some (.int .u32 (s'.b.toNat : Int)) := hV.cell (i := 1) (by omega)
      have v2 : wy.cell? ⟨vb, 2, none⟩ = some (.int .u32 (s'.c.toNat : Int)) := hV.cell (i := 2) (by omega)
      have v3 : wy.cell? ⟨vb, 3, none⟩ = some (.int .u32 (s'.d.toNat : Int)) := hV.cell (i := 3) (by omega)
      have v4 : wy.cell? ⟨vb, 4, none⟩ = some (.int .u32 (s'.e.toNat : Int)) := hV.cell (i := 4) (by omega)
      have v5 : wy.cell? ⟨vb, 5, none⟩ = some (.int .u32 (s'.f.toNat : Int)) := hV.cell (i := 5) (by omega)
      have v6 : wy.cell? ⟨vb, 6, none⟩ = some (.int .u32 (s'.g.toNat : Int)) := hV.cell (i := 6) (by omega)
      have v7 : wy.cell? ⟨vb, 7, none⟩ = some (.int .u32 (s'.h.toNat : Int)) := hV.cell (i := 7) (by omega)
      go_wp2_with (first
        | refine wpList_build_arr rfl 54 _ rfl (arrOf 8 (sel32 (((tt.toNat : Int) + uu.toNat) % 4294967296) s'.a.toNat s'.b.toNat s'.c.toNat (((s'.d.toNat : Int) + tt.toNat) % 4294967296) s'.e.toNat s'.f.toNat s'.g.toNat)) (by kernel_rfl) ?_
        | (refine wpList_store_arr rfl 54 (.tmp 14) (.tmp 217) rfl 8 arr8_32 hV rfl rfl (by omega) (sel32_one _ _ _ _ _ _ _ _) ?_; intro w6 hV6 hg6 hs6))
      go_roundw
      case rel =>
        (try ((repeat apply Exists.intro); refine ⟨?_, rfl⟩))
        refine ⟨t + 1, k256.step (k256.num t) (W t) s', by omega, by rw [HS.out]; rfl, by go_num, hV6.congr fun i hi => ?_, gb_rowIs hWr hg6 hwv, gb_rowIs hRr hg6 hrv, gb_rowIs hH hg6 hvn, gb_row hg hg6 hvb⟩
        unfold putN
        rw [if_pos (by omega), Nat.sub_zero]
        refine sel32_state (k256.step (k256.num t) (W t) s') _ _ _ _ _ _ _ _ ?_ rfl rfl rfl ?_ rfl rfl rfl i hi
        · refine (add32 tt uu).trans ?_
          rw [HTT.out, HUU.out, ← BitVec.add_assoc]
          rfl
        · refine (add32 s'.d tt).trans ?_
          rw [HTT.out]
          rfl
      case measure => simp [intOf]; omega
    · obtain rfl : t = 64 := by omega
      go_wp2
      exact ⟨by rw [← HS.out]; exact hV, hWr, hRr, hH, hg⟩

end Go.Proofs.Ytladojcbbhphfaa
