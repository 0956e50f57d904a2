/- The document's sums: the words that follow. -/
import Derived.Test.YtladojcbbhphfaaRefLaws
namespace Go.Proofs.Ytladojcbbhphfaa
open Go.RowKit Go.Deep

set_option maxHeartbeats 16000000 in
set_option maxRecDepth 100000 in
theorem ref256_L5 {Q : Exit → Act → World → Prop} (w3 : World) (hb wb : Nat) (W : Nat → BitVec 32) (st : Nat → BitVec 32) {u0 u1 u2 u3 u4 u5 u6 u7 u8 u10 u12 u13 u14 u15 u16 u17 u18 u19 u20 u21 u22 u23 u24 u25 u26 u27 u28 u29 u30 u31 u32 u33 u34 u35 u36 u37 u38 u39 u40 u41 u42 u43 u44 u45 u46 u47 u48 u49 u50 u51 u52 u53 u54 u55 u56 u57 u58 u59 u60 u61 u62 u63 u64 u65 u66 u67 u68 u69 u70 u71 u72 u73 u74 u75 u76 u77 u78 u79 u80 u81 u82 u83 u84 u85 u86 u87 u88 u89 u90 u91 u92 u93 u94 u95 u96 u97 u98 u99 u100 u101 u102 u103 u104 u105 u106 u107 u108 u109 u110 u111 u112 u113 u114 u115 u116 u117 u118 u119 u120 u121 u122 u123 u124 u125 u126 u127 u128 u129 u130 u131 u132 u133 u134 u135 u136 u137 u138 u139 u140 u141 u142 u143 u144 u145 u146 u147 u148 u149 u150 u151 u152 u153 u154 u155 u156 u157 u158 u159 u160 u161 u162 u163 u164 u165 u166 u167 u168 u169 u170 u171 u172 u173 u174 u175 u176 u177 u178 u179 u180 u181 u182 u183 u184 u185 u186 u187 u188 u189 u190 u191 u192 u193 u194 u195 u196 u197 u198 u199 u200 u201 u202 u203 u204 u205 u206 u207 u208 u209 u210 u211 u212 u213 u214 u215 u216 u217 u218 u219 u220 u221 u222 u223 u224 u225 u226 u227 u228 u229 u230 u231 u232 u233 u234 u235 u236 u237 u238 u239 u240 u241 u242 : Value} {wq : World} (hwb : w3.heap.size ≤ wb) (hwn : hb ≠ wb) (HWs : Hid (∀ i, 16 ≤ i → W i = sig (W (i - 2)) 17 19 10 + W (i - 7) + sig (W (i - 15)) 7 18 3 + W (i - 16)))
    (hW0 : wq.rowIs wb 57 64 (fun i => .int .u32 (if i < 16 then ((W i).toNat : Int) else 0))) (hH0 : wq.rowIs hb 54 8 (w32 st)) (hg0 : w3.grownBy wq (some hb))
    (hK : ∀ (x11 x12 x13 x80 x81 x82 x83 x84 x85 x86 x87 x88 x89 x90 x91 x92 x93 x94 x95 x96 x97 x98 x99 x100 x101 x102 x103 x104 x105 x106 x107 x108 x109 x110 x111 x112 x113 x114 x115 x116 x117 x118 x119 x120 x121 x122 x123 x124 x125 x126 x127 x128 x129 x130 x131 x132 : Value) (w' : World), (w'.rowIs wb 57 64 (w32 W) ∧ w'.rowIs hb 54 8 (w32 st) ∧ w3.grownBy w' (some hb)) → Q (.exit 8) ⟨(List.toArray (u0 :: u1 :: u2 :: u3 :: u4 :: u5 :: u6 :: u7 :: u8 :: (.pointer (some ⟨wb, 0, none⟩)) :: u10 :: x11 :: x12 :: x13 :: u14 :: u15 :: u16 :: u17 :: u18 :: u19 :: u20 :: u21 :: u22 :: u23 :: u24 :: u25 :: u26 :: u27 :: u28 :: u29 :: u30 :: u31 :: u32 :: u33 :: u34 :: u35 :: u36 :: u37 :: u38 :: u39 :: u40 :: u41 :: u42 :: u43 :: u44 :: u45 :: u46 :: u47 :: u48 :: u49 :: u50 :: u51 :: u52 :: u53 :: u54 :: u55 :: u56 :: u57 :: u58 :: u59 :: u60 :: u61 :: u62 :: u63 :: u64 :: u65 :: u66 :: u67 :: u68 :: u69 :: u70 :: u71 :: u72 :: u73 :: u74 :: u75 :: u76 :: u77 :: u78 :: u79 :: x80 :: x81 :: x82 :: x83 :: x84 :: x85 :: x86 :: x87 :: x88 :: x89 :: x90 :: x91 :: x92 :: x93 :: x94 :: x95 :: x96 :: x97 :: x98 :: x99 :: x100 :: x101 :: x102 :: x103 :: x104 :: x105 :: x106 :: x107 :: x108 :: x109 :: x110 :: x111 :: x112 :: x113 :: x114 :: x115 :: x116 :: x117 :: x118 :: x119 :: x120 :: x121 :: x122 :: x123 :: x124 :: x125 :: x126 :: x127 :: x128 :: x129 :: x130 :: x131 :: x132 :: u133 :: u134 :: u135 :: u136 :: u137 :: u138 :: u139 :: u140 :: u141 :: u142 :: u143 :: u144 :: u145 :: u146 :: u147 :: u148 :: u149 :: u150 :: u151 :: u152 :: u153 :: u154 :: u155 :: u156 :: u157 :: u158 :: u159 :: u160 :: u161 :: u162 :: u163 :: u164 :: u165 :: u166 :: u167 :: u168 :: u169 :: u170 :: u171 :: u172 :: u173 :: u174 :: u175 :: u176 :: u177 :: u178 :: u179 :: u180 :: u181 :: u182 :: u183 :: u184 :: u185 :: u186 :: u187 :: u188 :: u189 :: u190 :: u191 :: u192 :: u193 :: u194 :: u195 :: u196 :: u197 :: u198 :: u199 :: u200 :: u201 :: u202 :: u203 :: u204 :: u205 :: u206 :: u207 :: u208 :: u209 :: u210 :: u211 :: u212 :: u213 :: u214 :: u215 :: u216 :: u217 :: u218 :: u219 :: u220 :: u221 :: u222 :: u223 :: u224 :: u225 :: u226 :: u227 :: u228 :: u229 :: u230 :: u231 :: u232 :: u233 :: u234 :: u235 :: u236 :: u237 :: u238 :: u239 :: u240 :: u241 :: u242 :: [])), []⟩ w') :
    Code.wp Try.prog (codeAt 8 Try.f18) Q ⟨(List.toArray (u0 :: u1 :: u2 :: u3 :: u4 :: u5 :: u6 :: u7 :: u8 :: (.pointer (some ⟨wb, 0, none⟩)) :: u10 :: (.int .i64 (16 : Int)) :: u12 :: u13 :: u14 :: u15 :: u16 :: u17 :: u18 :: u19 :: u20 :: u21 :: u22 :: u23 :: u24 :: u25 :: u26 :: u27 :: u28 :: u29 :: u30 :: u31 :: u32 :: u33 :: u34 :: u35 :: u36 :: u37 :: u38 :: u39 :: u40 :: u41 :: u42 :: u43 :: u44 :: u45 :: u46 :: u47 :: u48 :: u49 :: u50 :: u51 :: u52 :: u53 :: u54 :: u55 :: u56 :: u57 :: u58 :: u59 :: u60 :: u61 :: u62 :: u63 :: u64 :: u65 :: u66 :: u67 :: u68 :: u69 :: u70 :: u71 :: u72 :: u73 :: u74 :: u75 :: u76 :: u77 :: u78 :: u79 :: u80 :: u81 :: u82 :: u83 :: u84 :: u85 :: u86 :: u87 :: u88 :: u89 :: u90 :: u91 :: u92 :: u93 :: u94 :: u95 :: u96 :: u97 :: u98 :: u99 :: u100 :: u101 :: u102 :: u103 :: u104 :: u105 :: u106 :: u107 :: u108 :: u109 :: u110 :: u111 :: u112 :: u113 :: u114 :: u115 :: u116 :: u117 :: u118 :: u119 :: u120 :: u121 :: u122 :: u123 :: u124 :: u125 :: u126 :: u127 :: u128 :: u129 :: u130 :: u131 :: u132 :: u133 :: u134 :: u135 :: u136 :: u137 :: u138 :: u139 :: u140 :: u141 :: u142 :: u143 :: u144 :: u145 :: u146 :: u147 :: u148 :: u149 :: u150 :: u151 :: u152 :: u153 :: u154 :: u155 :: u156 :: u157 :: u158 :: u159 :: u160 :: u161 :: u162 :: u163 :: u164 :: u165 :: u166 :: u167 :: u168 :: u169 :: u170 :: u171 :: u172 :: u173 :: u174 :: u175 :: u176 :: u177 :: u178 :: u179 :: u180 :: u181 :: u182 :: u183 :: u184 :: u185 :: u186 :: u187 :: u188 :: u189 :: u190 :: u191 :: u192 :: u193 :: u194 :: u195 :: u196 :: u197 :: u198 :: u199 :: u200 :: u201 :: u202 :: u203 :: u204 :: u205 :: u206 :: u207 :: u208 :: u209 :: u210 :: u211 :: u212 :: u213 :: u214 :: u215 :: u216 :: u217 :: u218 :: u219 :: u220 :: u221 :: u222 :: u223 :: u224 :: u225 :: u226 :: u227 :: u228 :: u229 :: u230 :: u231 :: u232 :: u233 :: u234 :: u235 :: u236 :: u237 :: u238 :: u239 :: u240 :: u241 :: u242 :: [])), []⟩ wq := by
  conv => arg 2; whnf
  go_loopw [11] (fun i wr => ∃ t : Nat, 16 ≤ t ∧ t ≤ 64 ∧ i = .int .i64 t ∧ wr.rowIs wb 57 64 (fun i => .int .u32 (if i < t then ((W i).toNat : Int) else 0)) ∧
    wr.rowIs hb 54 8 (w32 st) ∧ w3.grownBy wr (some hb)) (fun i _ => 64 - (intOf i).toNat)
  case atStart => exact ⟨16, by omega, by omega, rfl, hW0, hH0, hg0⟩
  case round =>
    clear hW0 hH0 hg0
    obtain ⟨t, ht0, ht, rfl, hWr, hH, hg⟩ := hrel
    by_cases hlt5 : t < 64
    · clear hK
      have c15 := hWr.cell (i := t - 15) (by omega)
      have c2 := hWr.cell (i := t - 2) (by omega)
      have c7 := hWr.cell (i := t - 7) (by omega)
      have c16 := hWr.cell (i := t - 16) (by omega)
      have c0 := hWr.cell (i := t) (by omega)
      rw [if_pos (by omega)] at c15 c2 c7 c16
      rw [if_neg (by omega)] at c0
      have hfr := hWr.frozen t
      have b1 : (15 : Int) ≤ (t : Int) := by omega
      have b2 : (t : Int) < 64 := by omega
      have hs : IntKind.u32.signed = false := rfl
      go_wp2
      go_quiet ((go_at_call 31; exact Calls.quiet_of (rot32_lit _ _ _ (by omega) (by omega))))
      clear c15 c2 c7 c16 c0 hfr
      replace hWr : (wr.drewN nq).rowIs wb 57 64 _ := hWr
      replace hH : (wr.drewN nq).rowIs hb 54 8 _ := hH
      replace hg := gb_drew hg nq
      generalize wr.drewN nq = wz at hWr hH hg ⊢
      have c2 := hWr.cell (i := t - 2) (by omega)
      have c7 := hWr.cell (i := t - 7) (by omega)
      have c16 := hWr.cell (i := t - 16) (by omega)
      have c0 := hWr.cell (i := t) (by omega)
      rw [if_pos (by omega)] at c2 c7 c16
      rw [if_neg (by omega)] at c0
      have hfr := hWr.frozen t
      obtain ⟨S1, hS1⟩ : ∃ S1, S1 = sig (W (t - 15)) 7 18 3 := ⟨_, rfl⟩
      have e1 : bits .xor .u32 (bits .xor .u32 (rotr (W (t - 15)) 7).toNat (rotr (W (t - 15)) 18).toNat) (((W (t - 15)).toNat : Int) / 8) = (S1.toNat : Int) := by rw [hS1]; exact sig_val32 _ 7 18 3
      rw [e1]
      have HS1 := Lib.hid hS1
      clear hS1 e1
      go_wp2
      go_quiet ((go_at_call 31; exact Calls.quiet_of (rot32_lit _ _ _ (by omega) (by omega))))
      obtain ⟨S2, hS2⟩ : ∃ S2, S2 = sig (W (t - 2)) 17 19 10 := ⟨_, rfl⟩
      have e2 : bits .xor .u32 (bits .xor .u32 (rotr (W (t - 2)) 17).toNat (rotr (W (t - 2)) 19).toNat) (((W (t - 2)).toNat : Int) / 1024) = (S2.toNat : Int) := by rw [hS2]; exact sig_val32 _ 17 19 10
      rw [e2]
      have HS2 := Lib.hid hS2
      clear hS2 e2 c2 c7 c16 c0 hfr
      replace hWr : (wz.drewN nq).rowIs wb 57 64 _ := hWr
      replace hH : (wz.drewN nq).rowIs hb 54 8 _ := hH
      replace hg := gb_drew hg nq
      generalize wz.drewN nq = wy at hWr hH hg ⊢
      have c7 := hWr.cell (i := t - 7) (by omega)
      have c16 := hWr.cell (i := t - 16) (by omega)
      have c0 := hWr.cell (i := t) (by omega)
      rw [if_pos (by omega)] at c7 c16
      rw [if_neg (by omega)] at c0
      have hfr := hWr.frozen t
      have w16 : IntKind.i64.wrap ((t : Int) - 16) = ((t - 16 : Nat) : Int) := by rw [IntWalk.i64_in _ (by omega)]; omega
      have w7 : IntKind.i64.wrap ((t : Int) - 7) = ((t - 7 : Nat) : Int) := by rw [IntWalk.i64_in _ (by omega)]; omega
      have m16 : ((t - 16 : Nat) : Int) < 64 := by omega
      have m7 : ((t - 7 : Nat) : Int) < 64 := by omega
      go_wp2
      replace hWr : wy.drew.rowIs wb 57 64 _ := hWr
      refine wp_noPan ?_
      refine wp_region_lins [(0, some [15]), (1, some [15]), (2, some [15]), (3, some [15]), (4, some [15]), (5, some [15]), (6, some [15]), (7, some [15]), (8, some [15]), (9, some [15]), (10, some [15]), (11, some [15]), (12, some [15]), (13, some [15]), (14, some [15]), (15, none)] (fun _ w' => w' = wy.drew) (by kernel_rfl) (by kernel_rfl) (by decide) (by kernel_rfl) (fun d _ _ _ _ h => by cases d <;> exact h) (fun _ _ => rfl) ?_
      refine lins_read 118 (Op.move (Operand.tmp 11)) 3 _ rfl rfl rfl rfl rfl (fun w0 hw0 => by unfold mkOp; go_simp; all_goals (with_reducible rfl)) ?_
      simp only [Act.put, List.setIfInBounds_toArray, List.set_cons_zero, List.set_cons_succ]
      refine lins_read 119 (Op.move (Operand.tmp 11)) 3 _ rfl rfl rfl rfl rfl (fun w0 hw0 => by unfold mkOp; go_simp; all_goals (with_reducible rfl)) ?_
      simp only [Act.put, List.setIfInBounds_toArray, List.set_cons_zero, List.set_cons_succ]
      refine lins_read 120 (Op.binOp BinOp.sub 3 (Operand.tmp 119) (Operand.const (Value.int IntKind.i64 16)) 3) 3 _ rfl rfl rfl rfl rfl (fun w0 hw0 => by unfold mkOp; go_simp; all_goals (with_reducible rfl)) ?_
      simp only [Act.put, List.setIfInBounds_toArray, List.set_cons_zero, List.set_cons_succ]
      refine lins_read 121 (Op.indexAddr 57 (Operand.tmp 9) (Operand.tmp 120)) 0 _ rfl rfl rfl rfl rfl (fun w0 hw0 => by unfold mkOp; go_simp; all_goals (with_reducible rfl)) ?_
      simp only [Act.put, List.setIfInBounds_toArray, List.set_cons_zero, List.set_cons_succ]
      refine lins_read 122 (Op.load 53 (Operand.tmp 121)) 53 (.int .u32 ((W (t - 16)).toNat : Int)) rfl rfl rfl rfl rfl (fun w0 hw0 => by obtain rfl := hw0 15 (by simp); exact exec_load_cell _ _ _ _ rfl (by kernel_rfl) c16) ?_
      simp only [Act.put, List.setIfInBounds_toArray, List.set_cons_zero, List.set_cons_succ]
      refine lins_read 123 (Op.move (Operand.tmp 12)) 53 _ rfl rfl rfl rfl rfl (fun w0 hw0 => by unfold mkOp; go_simp; all_goals (with_reducible rfl)) ?_
      simp only [Act.put, List.setIfInBounds_toArray, List.set_cons_zero, List.set_cons_succ]
      refine lins_read 124 (Op.binOp BinOp.add 53 (Operand.tmp 122) (Operand.tmp 123) 53) 53 _ rfl rfl rfl rfl rfl (fun w0 hw0 => by unfold mkOp; go_simp; all_goals (with_reducible rfl)) ?_
      simp only [Act.put, List.setIfInBounds_toArray, List.set_cons_zero, List.set_cons_succ]
      refine lins_read 125 (Op.move (Operand.tmp 11)) 3 _ rfl rfl rfl rfl rfl (fun w0 hw0 => by unfold mkOp; go_simp; all_goals (with_reducible rfl)) ?_
      simp only [Act.put, List.setIfInBounds_toArray, List.set_cons_zero, List.set_cons_succ]
      refine lins_read 126 (Op.binOp BinOp.sub 3 (Operand.tmp 125) (Operand.const (Value.int IntKind.i64 7)) 3) 3 _ rfl rfl rfl rfl rfl (fun w0 hw0 => by unfold mkOp; go_simp; all_goals (with_reducible rfl)) ?_
      simp only [Act.put, List.setIfInBounds_toArray, List.set_cons_zero, List.set_cons_succ]
      refine lins_read 127 (Op.indexAddr 57 (Operand.tmp 9) (Operand.tmp 126)) 0 _ rfl rfl rfl rfl rfl (fun w0 hw0 => by unfold mkOp; go_simp; all_goals (with_reducible rfl)) ?_
      simp only [Act.put, List.setIfInBounds_toArray, List.set_cons_zero, List.set_cons_succ]
      refine lins_read 128 (Op.load 53 (Operand.tmp 127)) 53 (.int .u32 ((W (t - 7)).toNat : Int)) rfl rfl rfl rfl rfl (fun w0 hw0 => by obtain rfl := hw0 15 (by simp); exact exec_load_cell _ _ _ _ rfl (by kernel_rfl) c7) ?_
      simp only [Act.put, List.setIfInBounds_toArray, List.set_cons_zero, List.set_cons_succ]
      refine lins_read 129 (Op.binOp BinOp.add 53 (Operand.tmp 124) (Operand.tmp 128) 53) 53 _ rfl rfl rfl rfl rfl (fun w0 hw0 => by unfold mkOp; go_simp; all_goals (with_reducible rfl)) ?_
      simp only [Act.put, List.setIfInBounds_toArray, List.set_cons_zero, List.set_cons_succ]
      refine lins_read 130 (Op.move (Operand.tmp 13)) 53 _ rfl rfl rfl rfl rfl (fun w0 hw0 => by unfold mkOp; go_simp; all_goals (with_reducible rfl)) ?_
      simp only [Act.put, List.setIfInBounds_toArray, List.set_cons_zero, List.set_cons_succ]
      refine lins_read 131 (Op.binOp BinOp.add 53 (Operand.tmp 129) (Operand.tmp 130) 53) 53 _ rfl rfl rfl rfl rfl (fun w0 hw0 => by unfold mkOp; go_simp; all_goals (with_reducible rfl)) ?_
      simp only [Act.put, List.setIfInBounds_toArray, List.set_cons_zero, List.set_cons_succ]
      refine lins_read 132 (Op.indexAddr 57 (Operand.tmp 9) (Operand.tmp 118)) 0 _ rfl rfl rfl rfl rfl (fun w0 hw0 => by unfold mkOp; go_simp; all_goals (with_reducible rfl)) ?_
      simp only [Act.put, List.setIfInBounds_toArray, List.set_cons_zero, List.set_cons_succ]
      refine lins_store_cell 53 (.tmp 132) (.tmp 131) rfl rfl rfl rfl hWr rfl rfl (by kernel_rfl) rfl rfl (by omega) ?_
      refine ⟨fun _ _ => True, fun c hc => (by cases hc), ?_⟩
      try simp only [Act.put, List.setIfInBounds_toArray, List.set_cons_zero, List.set_cons_succ]
      refine lins_end ?_
      simp only [NoPan]
      go_wp2
      go_roundw
      case rel =>
        (try ((repeat apply Exists.intro); refine ⟨?_, rfl⟩))
        refine ⟨t + 1, by omega, by omega, by go_num, (hWr.set t _).congr fun i hi => ?_, hH.setOther hwn _, ?_⟩
        · show (if i = t then _ else _) = _
          by_cases e : i = t
          · subst e
            rw [if_pos rfl, if_pos (by omega)]
            refine congrArg (Value.int .u32) ?_
            rw [HWs.out i ht0, ← HS1.out, ← HS2.out]
            exact ref_add4_32 _ _ _ _
          · rw [if_neg e]
            by_cases h2 : i < t
            · rw [if_pos h2, if_pos (by omega)]
            · rw [if_neg h2, if_neg (by omega)]
        · first | exact gb_set (gb_drew hg 1) hwb _ | exact gb_set hg hwb _ | exact gb_drew (gb_set (gb_drew hg _) hwb _) _ | exact gb_drew (gb_set hg hwb _) _ | exact gb_set (gb_drew hg _) hwb _
      case measure => simp [intOf]; omega
    · obtain rfl : t = 64 := by omega
      go_wp2
      exact ⟨hWr.congr fun i hi => by rw [if_pos hi]; rfl, hH, hg⟩

end Go.Proofs.Ytladojcbbhphfaa
