/- The document's own sponge: a block is laid over the lanes; a block is given out. -/
import Derived.Test.YtmfogngfdgpahaaDoorKecR6
import Derived.Test.YtmfogngfdgpahaaDoorKecD
namespace Go.Proofs.YtmfogngfdgpahaaDoor
open Go.RowKit Go.Deep

theorem Bs.oneI (w : World) (z : Int) (b : UInt8) (h : z = (b.toNat : Int)) : Bs (w.alloc (.cells #[.int .u8 z] 5)) (.slice (some ⟨w.heap.size, 0, none⟩) 1 1) [b] := by
  subst h
  exact Bs.one w b
theorem byteS_lt (s : Nat → BitVec 64) (i : Nat) : byteS s i < 256 := by unfold byteS; omega
theorem give_val (s : Nat → BitVec 64) (j : Nat) : ((s (j / 8)).toNat : Int) / 2 ^ (8 * (j % 8)) % 256 = ((UInt8.ofNat (byteS s j)).toNat : Int) := by
  have h := byteS_lt s j
  have e : (UInt8.ofNat (byteS s j)).toNat = byteS s j := by simp; omega
  rw [e]
  unfold byteS
  simp
theorem lays_take (s : Nat → BitVec 64) (b : List UInt8) (i : Nat) (h : i < b.length) : lays s 0 (b.take (i + 1)) = layB (lays s 0 (b.take i)) i (b[i]).toNat := by
  rw [List.take_succ_eq_append_getElem h, lays_snoc, List.length_take, Nat.zero_add, Nat.min_eq_left (by omega)]
theorem layB_l64 (s : Nat → BitVec 64) (i x : Nat) (k : Nat) (v : Int) (hv : v = ((s (i / 8) ^^^ (BitVec.ofNat 64 x <<< (8 * (i % 8)))).toNat : Int)) : (if k = i / 8 then (.int .u64 v : Value) else l64 s k) = l64 (layB s i x) k := by
  unfold l64 layB
  by_cases e : k = i / 8
  · rw [if_pos e, if_pos e, hv, e]
  · rw [if_neg e, if_neg e]

set_option maxHeartbeats 16000000 in
set_option maxRecDepth 100000 in
theorem refS_lay {Q : Exit → Act → World → Prop} (sb r q T cm : Nat) (am : Option Addr) (M : List UInt8) (s : Nat → BitVec 64) {u1 u2 u3 u4 u5 u6 u7 u8 u13 u14 u15 u16 u17 u18 u19 u20 u21 u22 u23 u24 u25 u26 u27 u28 u29 u30 u31 u32 u33 u34 u35 u36 u37 u38 u39 u40 u41 u42 u43 u44 u45 u46 u47 u48 u49 u50 u51 u52 u53 u54 u55 u56 u57 u58 u59 u60 u61 u62 u63 u64 u65 u66 u67 u68 u69 u70 u71 u72 u73 u74 u75 u76 u77 u78 u79 u80 u81 u82 u83 u84 u85 u86 u87 u88 u89 u90 u91 u92 u93 u94 u95 u96 u97 u98 u99 u100 u101 u102 u103 : Value} {wq : World} (hr : r < 200) (hqT : q + r ≤ T) (hT : T ≤ 2147483647) (hM : Hid (M.length = T)) (hB : Bs wq (.slice am T cm) M) (hAw : Away (.slice am T cm) sb) (hS : wq.rowIs sb 34 25 (l64 s))
    (hK : ∀ (x12 x48 x49 x50 x51 x52 x53 x54 x55 x56 x57 x58 x59 x60 x61 x62 x63 x64 x65 x66 x67 x68 x69 x70 x71 : Value) (w' : World), (w'.rowIs sb 34 25 (l64 (lays s 0 ((M.drop q).take r))) ∧ wq.grownBy w' (some sb)) → Q (.exit 4) ⟨(List.toArray ((.int .i64 (r : Int)) :: u1 :: u2 :: u3 :: u4 :: u5 :: u6 :: u7 :: u8 :: (.slice am T cm) :: (.pointer (some ⟨sb, 0, none⟩)) :: (.int .i64 (q : Int)) :: x12 :: u13 :: u14 :: u15 :: u16 :: u17 :: u18 :: u19 :: u20 :: u21 :: u22 :: u23 :: u24 :: u25 :: u26 :: u27 :: u28 :: u29 :: u30 :: u31 :: u32 :: u33 :: u34 :: u35 :: u36 :: u37 :: u38 :: u39 :: u40 :: u41 :: u42 :: u43 :: u44 :: u45 :: u46 :: u47 :: x48 :: x49 :: x50 :: x51 :: x52 :: x53 :: x54 :: x55 :: x56 :: x57 :: x58 :: x59 :: x60 :: x61 :: x62 :: x63 :: x64 :: x65 :: x66 :: x67 :: x68 :: x69 :: x70 :: x71 :: u72 :: u73 :: u74 :: u75 :: u76 :: u77 :: u78 :: u79 :: u80 :: u81 :: u82 :: u83 :: u84 :: u85 :: u86 :: u87 :: u88 :: u89 :: u90 :: u91 :: u92 :: u93 :: u94 :: u95 :: u96 :: u97 :: u98 :: u99 :: u100 :: u101 :: u102 :: u103 :: [])), []⟩ w') :
    Code.wp Tryd.prog (codeAt 4 Tryd.f24) Q ⟨(List.toArray ((.int .i64 (r : Int)) :: u1 :: u2 :: u3 :: u4 :: u5 :: u6 :: u7 :: u8 :: (.slice am T cm) :: (.pointer (some ⟨sb, 0, none⟩)) :: (.int .i64 (q : Int)) :: (.int .i64 (0 : Int)) :: u13 :: u14 :: u15 :: u16 :: u17 :: u18 :: u19 :: u20 :: u21 :: u22 :: u23 :: u24 :: u25 :: u26 :: u27 :: u28 :: u29 :: u30 :: u31 :: u32 :: u33 :: u34 :: u35 :: u36 :: u37 :: u38 :: u39 :: u40 :: u41 :: u42 :: u43 :: u44 :: u45 :: u46 :: u47 :: u48 :: u49 :: u50 :: u51 :: u52 :: u53 :: u54 :: u55 :: u56 :: u57 :: u58 :: u59 :: u60 :: u61 :: u62 :: u63 :: u64 :: u65 :: u66 :: u67 :: u68 :: u69 :: u70 :: u71 :: u72 :: u73 :: u74 :: u75 :: u76 :: u77 :: u78 :: u79 :: u80 :: u81 :: u82 :: u83 :: u84 :: u85 :: u86 :: u87 :: u88 :: u89 :: u90 :: u91 :: u92 :: u93 :: u94 :: u95 :: u96 :: u97 :: u98 :: u99 :: u100 :: u101 :: u102 :: u103 :: [])), []⟩ wq := by
  conv => arg 2; whnf
  go_loopw [12] (fun i wr => ∃ j : Nat, j ≤ r ∧ i = .int .i64 j ∧ wr.rowIs sb 34 25 (l64 (lays s 0 (((M.drop q).take r).take j))) ∧ wq.grownBy wr (some sb)) (fun i _ => r - (intOf i).toNat)
  case atStart => exact ⟨0, Nat.zero_le _, rfl, hS, grownBy_refl _ _⟩
  case round =>
    clear hS
    obtain ⟨j, hj, rfl, hs, hg⟩ := hrel
    have hbl : ((M.drop q).take r).length = r := by simp; have := hM.out; omega
    by_cases hlt : j < r
    · clear hK
      have hBr := gb_bs hB hg hAw
      have htk := lays_take s ((M.drop q).take r) j (by omega)
      have hq : q + j < M.length := by have := hM.out; omega
      obtain ⟨x, hxe⟩ : ∃ x, x = M[q + j] := ⟨_, rfl⟩
      rw [show ((M.drop q).take r)[j]'(by omega) = x by rw [hxe]; simp] at htk
      obtain ⟨b, off, cap', he, _, _, _, hc⟩ := hBr.open_n hM.out (by omega)
      cases he
      have hcj := hc (q + j) hq
      rw [← hxe] at hcj
      have hx8 := UInt8.toNat_lt x
      clear hc hBr hxe
      generalize lays s 0 (((M.drop q).take r).take j) = F at *
      have HTK := Lib.hid htk
      clear htk
      obtain ⟨J, hJ⟩ : ∃ J, J = j / 8 := ⟨_, rfl⟩
      obtain ⟨S, hS⟩ : ∃ S, S = 8 * (j % 8) := ⟨_, rfl⟩
      have c0 := hs.cell (i := J) (by omega)
      have hfr := hs.frozen J
      unfold l64 at c0
      have hsg : IntKind.u64.signed = false := rfl
      have p0 : (0 : Int) ≤ (j : Int) := by omega
      have p1 : (J : Int) < 25 := by omega
      have p2 : (j : Int) < (r : Int) := by omega
      have p3 : (q : Int) + (j : Int) < (T : Int) := by omega
      have p4 : (0 : Int) ≤ (q : Int) + (j : Int) := by omega
      have p5 : (S : Int) < 64 := by omega
      have d1 : ((q : Int) + (j : Int)).toNat = q + j := by omega
      have w1 : IntKind.i64.wrap ((q : Int) + (j : Int)) = (q : Int) + (j : Int) := i64w (by omega)
      have t1 : IntKind.i64.wrap ((j : Int) / 8) = (J : Int) := by rw [i64w (by omega)]; omega
      have w2 : IntKind.i64.wrap (8 * (j : Int).tmod 8) = (S : Int) := by rw [Int.tmod_eq_emod_of_nonneg (by omega), i64w (by omega)]; omega
      have w3 : IntKind.u64.wrap (x.toNat : Int) = (x.toNat : Int) := IntWalk.u64_in _ ⟨by omega, by omega⟩
      have HJ := Lib.hid hJ
      have HS := Lib.hid hS
      clear hJ hS
      go_wp2
      go_still_tail 19, (by kernel_rfl)
      clear w1 w2 w3 t1 d1
      change wpList _ _ _ _ _ wr.drew
      go_wp2
      go_roundw
      case rel =>
        (try ((repeat apply Exists.intro); refine ⟨?_, rfl⟩))
        refine ⟨j + 1, by omega, by go_num, ((hs.set J _).drew).congr fun i hi => ?_, gb_drew (gb_setb hg _) 1⟩
        rw [HTK.out]
        rw [HJ.out]
        refine layB_l64 F j x.toNat i _ ?_
        rw [← HJ.out, ← HS.out, byte_val x.toNat hx8, xor64]
      case measure => simp [intOf]; omega
    · obtain rfl : j = r := by omega
      have hall : ((M.drop q).take j).take j = (M.drop q).take j := List.take_of_length_le (by rw [hbl]; exact Nat.le_refl _)
      rw [hall] at hs
      go_wp2
      exact ⟨hs, hg⟩

set_option maxHeartbeats 16000000 in
set_option maxRecDepth 100000 in
theorem refS_give {Q : Exit → Act → World → Prop} (sb base r p0 n : Nat) (v : Value) (F : Nat → BitVec 64) {u1 u2 u4 u5 u6 u7 u8 u9 u11 u12 u15 u16 u17 u18 u19 u20 u21 u22 u23 u24 u25 u26 u27 u28 u29 u30 u31 u32 u33 u34 u35 u36 u37 u38 u39 u40 u41 u42 u43 u44 u45 u46 u47 u48 u49 u50 u51 u52 u53 u54 u55 u56 u57 u58 u59 u60 u61 u62 u63 u64 u65 u66 u67 u68 u69 u70 u71 u72 u73 u74 u75 u76 u77 u78 u79 u80 u81 u82 u83 u84 u85 u86 u87 u88 u89 u90 u91 u92 u93 u94 u95 u96 u97 u98 u99 u100 u101 u102 u103 : Value} {wq : World} (hr : r < 200) (hn : n ≤ 65536) (hp : p0 ≤ n) (hsb : sb < base) (hbase : base ≤ wq.heap.size) (hgv : (gv r F p0).2 = r) (hO : Owns wq base v (outL r F p0)) (hS : wq.rowIs sb 34 25 (l64 (keccak (gv r F p0).1)))
    (hK : ∀ (x13 x14 x78 x79 x80 x81 x82 x83 x84 x85 x86 x87 x88 x89 x90 x91 x92 x93 x94 x95 x96 x97 x98 x99 x100 : Value) (w' : World), (∃ i, i ≤ r ∧ (i < r → p0 + i = n) ∧ p0 + i ≤ n ∧ Owns w' base x13 (outL r F (p0 + i)) ∧ Below base wq w') → Q (.exit 8) ⟨(List.toArray ((.int .i64 (r : Int)) :: u1 :: u2 :: (.int .i64 (n : Int)) :: u4 :: u5 :: u6 :: u7 :: u8 :: u9 :: (.pointer (some ⟨sb, 0, none⟩)) :: u11 :: u12 :: x13 :: x14 :: u15 :: u16 :: u17 :: u18 :: u19 :: u20 :: u21 :: u22 :: u23 :: u24 :: u25 :: u26 :: u27 :: u28 :: u29 :: u30 :: u31 :: u32 :: u33 :: u34 :: u35 :: u36 :: u37 :: u38 :: u39 :: u40 :: u41 :: u42 :: u43 :: u44 :: u45 :: u46 :: u47 :: u48 :: u49 :: u50 :: u51 :: u52 :: u53 :: u54 :: u55 :: u56 :: u57 :: u58 :: u59 :: u60 :: u61 :: u62 :: u63 :: u64 :: u65 :: u66 :: u67 :: u68 :: u69 :: u70 :: u71 :: u72 :: u73 :: u74 :: u75 :: u76 :: u77 :: x78 :: x79 :: x80 :: x81 :: x82 :: x83 :: x84 :: x85 :: x86 :: x87 :: x88 :: x89 :: x90 :: x91 :: x92 :: x93 :: x94 :: x95 :: x96 :: x97 :: x98 :: x99 :: x100 :: u101 :: u102 :: u103 :: [])), []⟩ w') :
    Code.wp Tryd.prog (codeAt 8 Tryd.f24) Q ⟨(List.toArray ((.int .i64 (r : Int)) :: u1 :: u2 :: (.int .i64 (n : Int)) :: u4 :: u5 :: u6 :: u7 :: u8 :: u9 :: (.pointer (some ⟨sb, 0, none⟩)) :: u11 :: u12 :: v :: (.int .i64 (0 : Int)) :: u15 :: u16 :: u17 :: u18 :: u19 :: u20 :: u21 :: u22 :: u23 :: u24 :: u25 :: u26 :: u27 :: u28 :: u29 :: u30 :: u31 :: u32 :: u33 :: u34 :: u35 :: u36 :: u37 :: u38 :: u39 :: u40 :: u41 :: u42 :: u43 :: u44 :: u45 :: u46 :: u47 :: u48 :: u49 :: u50 :: u51 :: u52 :: u53 :: u54 :: u55 :: u56 :: u57 :: u58 :: u59 :: u60 :: u61 :: u62 :: u63 :: u64 :: u65 :: u66 :: u67 :: u68 :: u69 :: u70 :: u71 :: u72 :: u73 :: u74 :: u75 :: u76 :: u77 :: u78 :: u79 :: u80 :: u81 :: u82 :: u83 :: u84 :: u85 :: u86 :: u87 :: u88 :: u89 :: u90 :: u91 :: u92 :: u93 :: u94 :: u95 :: u96 :: u97 :: u98 :: u99 :: u100 :: u101 :: u102 :: u103 :: [])), []⟩ wq := by
  conv => arg 2; whnf
  go_loopw [13, 14] (fun o i wr => ∃ j : Nat, j ≤ r ∧ p0 + j ≤ n ∧ i = .int .i64 j ∧ Owns wr base o (outL r F (p0 + j)) ∧ Below base wq wr) (fun _ i _ => r - (intOf i).toNat)
  case atStart => exact ⟨0, Nat.zero_le _, hp, rfl, hO, Below.refl _ _⟩
  case round =>
    clear hO
    obtain ⟨j, hj, hpj, rfl, hO, hb⟩ := hrel
    have hol : (outL r F (p0 + j)).length = p0 + j := outL_length _ _ _
    obtain ⟨am, cm, rfl⟩ := hO.shape
    rw [hol] at hO ⊢
    by_cases hlt : j < r
    · by_cases hlt2 : p0 + j < n
      · clear hK
        have hs := hS.of_block (hb.block sb hsb)
        have hob := ob_run r F p0 j hgv hlt
        have hsu := outL_succ r F (p0 + j)
        generalize keccak (gv r F p0).1 = G at *
        have c0 := hs.cell (i := j / 8) (by omega)
        unfold l64 at c0
        have hsg : IntKind.u64.signed = false := rfl
        have t1 : (decide ((j : Int) < (r : Int))) = true := by simp; omega
        have t2 : (decide (((p0 + j : Nat) : Int) < (n : Int))) = true := by simp; omega
        have b0 : (r : Int) < 200 := by omega
        have b1 : (j : Int) < (r : Int) := by omega
        have b2 : ((p0 + j : Nat) : Int) < (n : Int) := by omega
        have HOB := Lib.hid hob
        have HSU := Lib.hid hsu
        have HOL := Lib.hid hol
        have HGV := Lib.hid hgv
        clear hob hsu hol hgv
        have hpn : p0 + j ≤ 65536 := by omega
        have hpe2 : p0 + (j + 1) = p0 + j + 1 := rfl
        have HPE := Lib.hid hpe2
        clear hpe2
        generalize hpe : p0 + j = p at *
        have hbs : base ≤ wr.heap.size := Nat.le_trans hbase hb.size
        go_wp2_with (refine wpList_app rfl (.tmp 89) (.tmp 99) rfl base _ _ (outL r F p) [UInt8.ofNat (byteS G j)] (Owns.alloc hO _) (Bs.oneI _ _ _ (give_val G j)) rfl rfl (by rw [HOL.out]; simp; omega) (by simp; omega) ?_; intro v2 w2 hO2 hg2
                     have hb2 := (hb.alloc hbs _).grown hg2 (by simp; omega) (Owns.block hO)
                     clear hg2)
        go_roundw
        case rel =>
          (try ((repeat apply Exists.intro); refine ⟨?_, rfl⟩))
          refine ⟨j + 1, by omega, by rw [HPE.out]; omega, by go_num, ?_, hb2⟩
          rw [HPE.out, HSU.out, HOB.out]
          exact hO2
        case measure => simp [intOf]; omega
      · have hpn : p0 + j = n := by omega
        have t1 : (decide ((j : Int) < (r : Int))) = true := by simp; omega
        have t2 : (decide (((p0 + j : Nat) : Int) < (n : Int))) = false := by simp; omega
        have b1 : (j : Int) < (r : Int) := by omega
        have HF := Lib.hid hpn
        have HO2 := Lib.hid hO
        clear hpn hol hgv hO
        have HFJ : Hid (∃ i, i ≤ r ∧ (i < r → p0 + i = n) ∧ p0 + i ≤ n ∧ Owns wr base (.slice am (p0 + j) cm) (outL r F (p0 + i)) ∧ Below base wq wr) := ⟨j, hj, fun _ => HF.out, hpj, HO2.out, hb⟩
        generalize p0 + j = p at *
        go_wp2
        exact HFJ.out
    · obtain rfl : j = r := by omega
      have HFJ : Hid (∃ i, i ≤ j ∧ (i < j → p0 + i = n) ∧ p0 + i ≤ n ∧ Owns wr base (.slice am (p0 + j) cm) (outL j F (p0 + i)) ∧ Below base wq wr) := ⟨j, hj, fun h => absurd h (Nat.lt_irrefl _), hpj, hO, hb⟩
      have t1 : (decide ((j : Int) < (j : Int))) = false := by simp
      generalize p0 + j = p at *
      go_wp2
      exact HFJ.out

end Go.Proofs.YtmfogngfdgpahaaDoor
