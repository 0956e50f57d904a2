/- The document's own permutation: rho and pi by a walk. -/
import Derived.Test.YtmfogngfdgpahaaDoorKecR2
namespace Go.Proofs.YtmfogngfdgpahaaDoor
open Go.RowKit Go.Deep

theorem run_mul (a b c : Int) (h : IntKind.i64.wrap (a * b) = c) (w : World) : (binOp .mul 3 (.int .i64 a) (.int .i64 b)).run Tryd.prog w = .ok (.int .i64 c) w := by
  go_simp
theorem run_quo (a b c : Int) (hb : ¬ b = 0) (h : IntKind.i64.wrap (a.tdiv b) = c) (w : World) : (binOp .quo 3 (.int .i64 a) (.int .i64 b)).run Tryd.prog w = .ok (.int .i64 c) w := by
  go_simp
theorem run_rem (a b c : Int) (hb : ¬ b = 0) (h : a.tmod b = c) (w : World) : (binOp .rem 3 (.int .i64 a) (.int .i64 b)).run Tryd.prog w = .ok (.int .i64 c) w := by
  go_simp
/-- An operation on two values, its run known. -/
theorem wpList_bin {P : Program} {ops : Array Oper} {rest : List Oper} {o : Oper} {a : Act} {w : World} {Q : Exit → Act → World → Prop} (hgd : o.guard = none) (op : BinOp) (t t' : TypeId) (x y : Operand) (ho : o.op = .binOp op t x y t') {u v r : Value} (hq : ∀ w, (eqGuard op t x y u v).run P w = .ok () w) (hr : ∀ w, (binOp op t u v).run P w = .ok r w) (hx : a.eval x = u) (hy : a.eval y = v)
    (h : wpList P ops Q rest (a.put o.dst r) w) : wpList P ops Q (o :: rest) a w :=
  wpList_value hgd r (by simp [execOp, ho, hx, hy, hq, hr, Result.andThen]) h
theorem walk_turn : ∀ t, t < 24 → 0 < (t + 1) * (t + 2) / 2 % 64 := by decide
theorem walk_mul : ∀ t, t < 24 → (t + 1) * (t + 2) ≤ 600 := by decide
theorem rolN_val (x : BitVec 64) (k : Nat) : bits .or .u64 (IntKind.u64.wrap ((x.toNat : Int) * 2 ^ k)) ((x.toNat : Int) / 2 ^ (64 - k)) = ((rol x k).toNat : Int) := by
  rw [wrap_u64, shl64, shr32, or64]
  rfl

set_option maxHeartbeats 16000000 in
set_option maxRecDepth 100000 in
theorem refP_walk {Q : Exit → Act → World → Prop} (ab bb : Nat) (s : Nat → BitVec 64) {u0 u2 u3 u4 u5 u6 u7 u8 u9 u14 u15 u16 u17 u18 u19 u20 u21 u22 u23 u24 u25 u26 u27 u28 u29 u30 u31 u32 u33 u34 u35 u36 u37 u38 u39 u40 u41 u42 u43 u44 u45 u46 u47 u48 u49 u50 u51 u52 u53 u54 u55 u56 u57 u58 u59 u60 u61 u62 u63 u64 u65 u66 u67 u68 u69 u70 u71 u72 u73 u74 u75 u76 u77 u78 u79 u80 u81 u82 u83 u84 u85 u86 u87 u88 u89 u90 u91 u92 u93 u94 u95 u96 u97 u98 u99 u100 u101 u102 u103 u104 u105 u106 u107 u108 u109 u110 u111 u112 u113 u114 u115 u116 u117 u118 u119 u120 u121 u122 u123 u124 u125 u126 u127 u128 u129 u130 u131 u132 u133 u134 u135 u136 u137 u138 u139 u140 u141 u142 u143 u144 u145 u146 u147 u148 u149 u150 u151 u152 u153 u154 u155 u156 u157 u158 u159 u160 u161 u162 u163 u164 u165 u166 u167 u168 u169 u170 u171 u172 u173 u174 u175 u176 u177 u178 u179 u180 u181 u182 u183 u184 u185 u186 u187 u188 u189 u190 u191 u192 u193 u194 u195 u196 u197 u198 u199 u200 u201 u202 u203 u204 : Value} {wq : World} (hne : ab ≠ bb) (hA : wq.rowIs ab 34 25 (l64 s)) (hB : wq.rowIs bb 34 25 (l64 (walkB s 0)))
    (hK : ∀ (x11 x12 x13 x14 x15 x16 x97 x98 x99 x100 x101 x102 x103 x104 x105 x106 x107 x108 x109 x110 x111 x112 x113 x114 x115 x116 x117 x118 x119 x120 x121 x122 x123 x124 x125 x126 x127 x128 x129 x130 x131 x132 x133 x134 x135 x136 x137 x138 x139 x140 x141 x142 : Value) (w' : World), (w'.rowIs bb 34 25 (l64 (walkB s 24)) ∧ wq.grownBy w' (some bb)) → Q (.exit 8) ⟨(List.toArray (u0 :: (.pointer (some ⟨ab, 0, none⟩)) :: u2 :: u3 :: u4 :: u5 :: u6 :: u7 :: u8 :: u9 :: (.pointer (some ⟨bb, 0, none⟩)) :: x11 :: x12 :: x13 :: x14 :: x15 :: x16 :: u17 :: u18 :: u19 :: u20 :: u21 :: u22 :: u23 :: u24 :: u25 :: u26 :: u27 :: u28 :: u29 :: u30 :: u31 :: u32 :: u33 :: u34 :: u35 :: u36 :: u37 :: u38 :: u39 :: u40 :: u41 :: u42 :: u43 :: u44 :: u45 :: u46 :: u47 :: u48 :: u49 :: u50 :: u51 :: u52 :: u53 :: u54 :: u55 :: u56 :: u57 :: u58 :: u59 :: u60 :: u61 :: u62 :: u63 :: u64 :: u65 :: u66 :: u67 :: u68 :: u69 :: u70 :: u71 :: u72 :: u73 :: u74 :: u75 :: u76 :: u77 :: u78 :: u79 :: u80 :: u81 :: u82 :: u83 :: u84 :: u85 :: u86 :: u87 :: u88 :: u89 :: u90 :: u91 :: u92 :: u93 :: u94 :: u95 :: u96 :: x97 :: x98 :: x99 :: x100 :: x101 :: x102 :: x103 :: x104 :: x105 :: x106 :: x107 :: x108 :: x109 :: x110 :: x111 :: x112 :: x113 :: x114 :: x115 :: x116 :: x117 :: x118 :: x119 :: x120 :: x121 :: x122 :: x123 :: x124 :: x125 :: x126 :: x127 :: x128 :: x129 :: x130 :: x131 :: x132 :: x133 :: x134 :: x135 :: x136 :: x137 :: x138 :: x139 :: x140 :: x141 :: x142 :: u143 :: u144 :: u145 :: u146 :: u147 :: u148 :: u149 :: u150 :: u151 :: u152 :: u153 :: u154 :: u155 :: u156 :: u157 :: u158 :: u159 :: u160 :: u161 :: u162 :: u163 :: u164 :: u165 :: u166 :: u167 :: u168 :: u169 :: u170 :: u171 :: u172 :: u173 :: u174 :: u175 :: u176 :: u177 :: u178 :: u179 :: u180 :: u181 :: u182 :: u183 :: u184 :: u185 :: u186 :: u187 :: u188 :: u189 :: u190 :: u191 :: u192 :: u193 :: u194 :: u195 :: u196 :: u197 :: u198 :: u199 :: u200 :: u201 :: u202 :: u203 :: u204 :: [])), []⟩ w') :
    Code.wp Tryd.prog (codeAt 8 Tryd.f19) Q ⟨(List.toArray (u0 :: (.pointer (some ⟨ab, 0, none⟩)) :: u2 :: u3 :: u4 :: u5 :: u6 :: u7 :: u8 :: u9 :: (.pointer (some ⟨bb, 0, none⟩)) :: (.int .i64 (1 : Int)) :: (.int .i64 (0 : Int)) :: (.int .i64 (0 : Int)) :: u14 :: u15 :: u16 :: u17 :: u18 :: u19 :: u20 :: u21 :: u22 :: u23 :: u24 :: u25 :: u26 :: u27 :: u28 :: u29 :: u30 :: u31 :: u32 :: u33 :: u34 :: u35 :: u36 :: u37 :: u38 :: u39 :: u40 :: u41 :: u42 :: u43 :: u44 :: u45 :: u46 :: u47 :: u48 :: u49 :: u50 :: u51 :: u52 :: u53 :: u54 :: u55 :: u56 :: u57 :: u58 :: u59 :: u60 :: u61 :: u62 :: u63 :: u64 :: u65 :: u66 :: u67 :: u68 :: u69 :: u70 :: u71 :: u72 :: u73 :: u74 :: u75 :: u76 :: u77 :: u78 :: u79 :: u80 :: u81 :: u82 :: u83 :: u84 :: u85 :: u86 :: u87 :: u88 :: u89 :: u90 :: u91 :: u92 :: u93 :: u94 :: u95 :: u96 :: u97 :: u98 :: u99 :: u100 :: u101 :: u102 :: u103 :: u104 :: u105 :: u106 :: u107 :: u108 :: u109 :: u110 :: u111 :: u112 :: u113 :: u114 :: u115 :: u116 :: u117 :: u118 :: u119 :: u120 :: u121 :: u122 :: u123 :: u124 :: u125 :: u126 :: u127 :: u128 :: u129 :: u130 :: u131 :: u132 :: u133 :: u134 :: u135 :: u136 :: u137 :: u138 :: u139 :: u140 :: u141 :: u142 :: u143 :: u144 :: u145 :: u146 :: u147 :: u148 :: u149 :: u150 :: u151 :: u152 :: u153 :: u154 :: u155 :: u156 :: u157 :: u158 :: u159 :: u160 :: u161 :: u162 :: u163 :: u164 :: u165 :: u166 :: u167 :: u168 :: u169 :: u170 :: u171 :: u172 :: u173 :: u174 :: u175 :: u176 :: u177 :: u178 :: u179 :: u180 :: u181 :: u182 :: u183 :: u184 :: u185 :: u186 :: u187 :: u188 :: u189 :: u190 :: u191 :: u192 :: u193 :: u194 :: u195 :: u196 :: u197 :: u198 :: u199 :: u200 :: u201 :: u202 :: u203 :: u204 :: [])), []⟩ wq := by
  conv => arg 2; whnf
  go_loopw [11, 12, 13] (fun x y i wr => ∃ t : Nat, t ≤ 24 ∧ i = .int .i64 t ∧ x = .int .i64 ((walkXY t).1 : Nat) ∧ y = .int .i64 ((walkXY t).2 : Nat) ∧ wr.rowIs bb 34 25 (l64 (walkB s t)) ∧ wq.grownBy wr (some bb)) (fun _ _ i _ => 24 - (intOf i).toNat)
  case atStart => exact ⟨0, Nat.zero_le _, rfl, rfl, rfl, hB, grownBy_refl _ _⟩
  case round =>
    clear hB
    obtain ⟨t, ht, rfl, rfl, rfl, hb, hg⟩ := hrel
    have ha := gb_rowIs hA hg hne
    by_cases hlt : t < 24
    · clear hK hA
      have hxy := walkXY_lt t (by omega)
      have hnx : walkXY (t + 1) = ((walkXY t).2, (2 * (walkXY t).1 + 3 * (walkXY t).2) % 5) := rfl
      have hbx : walkB s (t + 1) = fun i => if i = (walkXY t).2 + 5 * ((2 * (walkXY t).1 + 3 * (walkXY t).2) % 5) then rol (s ((walkXY t).1 + 5 * (walkXY t).2)) ((t + 1) * (t + 2) / 2 % 64) else walkB s t i := rfl
      generalize walkXY t = q at *
      obtain ⟨X, Y⟩ := q
      simp only at hxy hnx hbx
      obtain ⟨hX, hY⟩ := hxy
      have hturn := walk_turn t hlt
      have hmul := walk_mul t hlt
      obtain ⟨M, hM⟩ : ∃ M, M = (t + 1) * (t + 2) := ⟨_, rfl⟩
      rw [← hM] at hturn hmul hbx
      have hZ5 : (2 * X + 3 * Y) % 5 < 5 := by omega
      have hMi : ((t : Int) + 1) * ((t : Int) + 2) = (M : Int) := by rw [hM]; simp
      obtain ⟨H, hH⟩ : ∃ H, H = M / 2 := ⟨_, rfl⟩
      obtain ⟨K, hKn⟩ : ∃ K, K = M / 2 % 64 := ⟨_, rfl⟩
      have rM := run_mul ((t : Int) + 1) ((t : Int) + 2) (M : Int) (by rw [hMi]; exact IntWalk.i64_in _ (by omega))
      have rQ := run_quo (M : Int) 2 (H : Int) (by omega) (by rw [Int.tdiv_eq_ediv_of_nonneg (by omega), show (M : Int) / 2 = (H : Int) by omega]; exact IntWalk.i64_in _ (by omega))
      have rR := run_rem (H : Int) 64 (K : Int) (by omega) (by rw [Int.tmod_eq_emod_of_nonneg (by omega)]; omega)
      rw [← hKn] at hturn hbx
      clear hMi hH
      have hK64 : K < 64 := by omega
      have c0 := ha.cell (i := X + 5 * Y) (by omega)
      have cb := hb.cell (i := Y + 5 * ((2 * X + 3 * Y) % 5)) (by omega)
      have hfr := hb.frozen (Y + 5 * ((2 * X + 3 * Y) % 5))
      unfold l64 at c0 cb
      have HNX := Lib.hid hnx
      have HBX := Lib.hid hbx
      clear hnx hbx hM hKn
      have x1 : (X : Int) < 5 := by omega
      have y1 : (Y : Int) < 5 := by omega
      have k1 : (0 : Int) < (K : Int) := by omega
      have k2 : (K : Int) < 64 := by omega
      have m1 : (M : Int) ≤ 600 := by omega
      have i1 : (X : Int) + 5 * (Y : Int) < 25 := by omega
      go_wp2_with (first
        | refine wpList_bin (o := ⟨some 105, _, _, _, _, _⟩) rfl .mul 3 3 _ _ rfl (fun _ => rfl) rM rfl rfl ?_
        | refine wpList_bin (o := ⟨some 106, _, _, _, _, _⟩) rfl .quo 3 3 _ _ rfl (fun _ => rfl) rQ rfl rfl ?_
        | refine wpList_bin (o := ⟨some 107, _, _, _, _, _⟩) rfl .rem 3 3 _ _ rfl (fun _ => rfl) rR rfl rfl ?_)
      clear rM rQ rR
      have w64 : IntKind.i64.wrap (64 - (K : Int)) = 64 - (K : Int) := IntWalk.i64_in _ (by omega)
      have n64 : (64 - (K : Int)).toNat = 64 - K := by omega
      have p64 : (0 : Int) ≤ 64 - (K : Int) := by omega
      have p0 : (0 : Int) ≤ (K : Int) := by omega
      have hs : IntKind.u64.signed = false := rfl
      go_quiet (fail)
      clear w64 n64
      have eD := rolN_val (s (X + 5 * Y)) K
      rw [eD]
      clear eD c0 cb hfr hs p64 p0
      replace hb : (wr.drewN nq).rowIs bb 34 25 (l64 (walkB s t)) := hb
      replace hg := gb_drew hg nq
      generalize wr.drewN nq = w5 at hb hg ⊢
      clear ha
      have cb := hb.cell (i := Y + 5 * ((2 * X + 3 * Y) % 5)) (by omega)
      have hfr := hb.frozen (Y + 5 * ((2 * X + 3 * Y) % 5))
      unfold l64 at cb
      go_wp2
      go_roundw
      case rel =>
        (try ((repeat apply Exists.intro); refine ⟨?_, rfl⟩))
        refine ⟨t + 1, by omega, by go_num, by rw [HNX.out], by rw [HNX.out]; go_num, (hb.set _ _).congr fun i hi => ?_, gb_setb hg _⟩
        rw [HBX.out]
        unfold l64
        show (if i = Y + 5 * ((2 * X + 3 * Y) % 5) then _ else _) = Value.int .u64 (((if i = Y + 5 * ((2 * X + 3 * Y) % 5) then rol (s (X + 5 * Y)) K else walkB s t i : BitVec 64)).toNat : Int)
        by_cases e : i = Y + 5 * ((2 * X + 3 * Y) % 5)
        · rw [if_pos e, if_pos e]
        · rw [if_neg e, if_neg e]
      case measure => simp [intOf]; omega
    · obtain rfl : t = 24 := by omega
      go_wp2
      exact ⟨hb, hg⟩

end Go.Proofs.YtmfogngfdgpahaaDoor
