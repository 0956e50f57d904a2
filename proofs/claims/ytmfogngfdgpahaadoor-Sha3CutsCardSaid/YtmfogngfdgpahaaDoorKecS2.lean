/- The document's own sponge. -/
import Derived.Test.YtmfogngfdgpahaaDoorKecS1
namespace Go.Proofs.YtmfogngfdgpahaaDoor
open Go.RowKit Go.Deep

/-- A slice of the call's own as a row. -/
theorem Owns.row {w : World} {base : Nat} {v : Value} {l : List UInt8} (h : Owns w base v l) (hn : 0 < l.length) :
    ∃ g cap f, v = .slice (some ⟨g, 0, none⟩) l.length cap ∧ base ≤ g ∧ l.length ≤ cap ∧ cap ≤ maxLen ∧ w.rowIs g 5 cap f ∧ ∀ i (hi : i < l.length), f i = .int .u8 ((l[i]).toNat : Int) := by
  obtain ⟨_, h2⟩ := h
  rcases h2 with ⟨rfl, hz⟩ | ⟨g, cap, cur, rfl, hb, hg, hle, hm, hs, ht⟩
  · omega
  · have hs' : cur.size = cap := by simpa using hs
    refine ⟨g, cap, fun i => cur.getD i default, rfl, hb, hle, hm, ⟨cur, hg, hs', fun i hi => ?_⟩, fun i hi => ?_⟩
    · show cur[i]? = some (cur.getD i default)
      rw [Array.getElem?_eq_getElem (by omega), Array.getD_eq_getD_getElem?, Array.getElem?_eq_getElem (by omega)]
      rfl
    · have h1 : (u8s l)[i]? = cur.toList[i]? := by
        rw [← ht, List.getElem?_take_of_lt (by omega)]
      have h2 : (u8s l)[i]? = some (.int .u8 ((l[i]).toNat : Int)) := by simp [u8s, hi]
      rw [h2] at h1
      have h3 : cur[i]? = some (.int .u8 ((l[i]).toNat : Int)) := by rw [← Array.getElem?_toList]; exact h1.symm
      show cur.getD i default = _
      rw [Array.getD_eq_getD_getElem?, h3]
      rfl
theorem Owns.of_block {w w' : World} {base : Nat} {v : Value} {l : List UInt8} (h : Owns w base v l) (e : ∀ k, v.ownBlock = some k → base ≤ k → k < w.heap.size → w'.heap[k]? = w.heap[k]?) : Owns w' base v l := by
  obtain ⟨h1, h2⟩ := h
  rcases h2 with h2 | ⟨g, cap, cur, rfl, hb, hg, hr⟩
  · exact ⟨h1, .inl h2⟩
  · exact ⟨h1, .inr ⟨g, cap, cur, rfl, hb, (e g rfl hb (Array.getElem?_eq_some_iff.1 hg).1).trans hg, hr⟩⟩
theorem or128_u8 : ∀ x : Nat, x < 256 → bits .or .u8 (x : Int) 128 = ((x ||| 128 : Nat) : Int) := by decide +kernel
theorem setLast_get (l : List UInt8) (i : Nat) (hi : i < l.length) (e : i ≠ l.length - 1) : (setLast l)[i]'(by rw [setLast_length]; exact hi) = l[i] := by
  unfold setLast
  exact List.getElem_set_ne (Ne.symm e) _
theorem Bs.setLast {w : World} {g cap : Nat} {f : Nat → Value} {l : List UInt8} (h : w.rowIs g 5 cap f) (hf : ∀ i (hi : i < l.length), f i = .int .u8 ((l[i]).toNat : Int)) (hn : 0 < l.length) (hc : l.length ≤ cap) (hm : cap ≤ maxLen) (z : Int) (hz : z = (((l.getD (l.length - 1) 0) ||| 128 : UInt8).toNat : Int)) :
    Bs (w.setCell ⟨g, l.length - 1, none⟩ (.int .u8 z)) (.slice (some ⟨g, 0, none⟩) l.length cap) (Go.Proofs.YtmfogngfdgpahaaDoor.setLast l) := by
  have hl : (Go.Proofs.YtmfogngfdgpahaaDoor.setLast l).length = l.length := setLast_length l
  have hB := Bs.of_rowIs (h.set (l.length - 1) (.int .u8 z)) (Go.Proofs.YtmfogngfdgpahaaDoor.setLast l) (by rw [hl]; exact hc) hm (fun i hi => by
    rw [hl] at hi
    show (if i = l.length - 1 then _ else f i) = _
    by_cases e : i = l.length - 1
    · rw [if_pos e, hz]
      subst e
      simp [Go.Proofs.YtmfogngfdgpahaaDoor.setLast]
    · rw [if_neg e, hf i hi, setLast_get l i hi e])
  rwa [hl] at hB

set_option maxHeartbeats 16000000 in
set_option maxRecDepth 100000 in
theorem refSponge_any (r : Nat) (e : UInt8) (v : Value) (l : List UInt8) (n : Nat) (w : World) (hr0 : 0 < r) (hr : r < 200) (he : e.toNat < 128) (hv : Bs w v l) (hlen : l.length < 2 ^ 30) (hn : n ≤ 65536) :
    Calls Tryd.prog 24 #[.int .i64 (r : Int), .int .u8 (e.toNat : Int), v, .int .i64 (n : Int)] w fun e' w' => ∃ v', e' = .returned v' ∧ Bs w' v' (spongeL r e.toNat l n) ∧ Below w.heap.size w w' := by
  obtain ⟨a, T, cap, rfl, hT, hc1, hc2, hB0⟩ := hv.shape
  have HV := Lib.hid hB0
  have HT := Lib.hid hT
  have hT30 : T < 2 ^ 30 := by omega
  have hO := Owns.empty w
  have hb8 : Below w.heap.size w (w.alloc (.cells #[] 5)) := (Below.refl _ _).alloc (Nat.le_refl _) _
  have HB := Lib.hid (HV.out.below hb8 (Nat.le_refl _))
  clear hv hB0 hT
  go_enter Tryd.func24, Tryd.ntmps24
  go_wp2_with (first
    | (refine wpList_app rfl (.tmp 15) (.tmp 16) rfl w.heap.size _ _ [] l hO HB.out rfl rfl (by simp; have := HT.out; omega) (by simp) ?_; intro v5 w5 hO5 hg5
       have hb5 := hb8.grown hg5 (by simp) (Owns.block hO)
       clear hO HB hg5 hb8)
    | (refine wpList_app rfl (.tmp 17) (.tmp 19) rfl w.heap.size _ _ ([] ++ l) [e] (Owns.alloc hO5 _) (Bs.oneI w5 _ e rfl) rfl rfl (by simp; have := HT.out; omega) (by have := hb5.size; simp; omega) ?_; intro v6 w6 hO6 hg6
       have hb6 := (hb5.alloc hb5.size (.cells #[.int .u8 (e.toNat : Int)] 5)).grown hg6 (by have := hb5.size; simp; omega) (Owns.block hO5)
       clear hO5 hg6 hb5))
  generalize hbe : w.heap.size = base at *
  have HW := Lib.hid hbe
  clear hbe
  have hpr : padTo r T < r := by unfold padTo; omega
  go_loopw [9] (fun m wq => ∃ z : Nat, z ≤ padTo r T ∧ Owns wq base m (padS r l e z) ∧ Below base w wq) (fun m _ => T + 1 + padTo r T - lenOf m)
  case atStart => exact ⟨0, Nat.zero_le _, by unfold padS; rw [List.replicate_zero, List.append_nil]; exact hO6, hb6⟩
  case round =>
    clear hO6 hb6
    obtain ⟨z, hz, hO, hbq⟩ := hrel
    have hml : (padS r l e z).length = T + 1 + z := by rw [padS_length, HT.out]
    obtain ⟨am, cm, hme⟩ := hO.shape
    rw [hml] at hme
    subst hme
    have HML := Lib.hid hml
    clear hml
    have hbase : base ≤ wr.heap.size := by have := hbq.size; rw [HW.out] at this; exact this
    have hmod := pad_mod r T z hr0 hz
    have htm : (((T + 1 + z : Nat) : Int)).tmod (r : Int) = (((T + 1 + z) % r : Nat) : Int) := by rw [Int.tmod_eq_emod_of_nonneg (by omega)]; rfl
    have rR := run_rem (((T + 1 + z : Nat) : Int)) (r : Int) _ (by omega) htm
    by_cases hend : z = padTo r T
    · subst hend
      have hx0 : (T + 1 + padTo r T) % r = 0 := hmod.2 rfl
      rw [hx0] at rR
      have hne : (((0 : Nat) : Int) != 0) = false := rfl
      obtain ⟨g, cap', f, hve, hgb, hlc, hcm, hrow, hf⟩ := Owns.row hO (by rw [HML.out]; omega)
      rw [HML.out] at hve hlc
      simp only [Value.slice.injEq] at hve
      obtain ⟨rfl, _, rfl⟩ := hve
      clear htm hmod hx0
      have hlast := hrow.cell (i := T + 1 + padTo r T - 1) (by omega)
      rw [hf _ (by rw [HML.out]; omega)] at hlast
      have hfr := hrow.frozen (T + 1 + padTo r T - 1)
      have hgl := hrow.lt
      obtain ⟨x, hx⟩ : ∃ x : UInt8, x = (padS r l e (padTo r T))[T + 1 + padTo r T - 1]'(by rw [HML.out]; omega) := ⟨_, rfl⟩
      rw [← hx] at hlast
      have hz0 : bits .or .u8 (x.toNat : Int) 128 = ((((padS r l e (padTo r T)).getD ((padS r l e (padTo r T)).length - 1) 0) ||| 128 : UInt8).toNat : Int) := by
        have hx8 := UInt8.toNat_lt x
        rw [or128_u8 x.toNat hx8, HML.out, List.getD_eq_getElem?_getD, List.getElem?_eq_getElem (by rw [HML.out]; omega), ← hx]
        show _ = ((x ||| 128).toNat : Int)
        rw [UInt8.toNat_or]
        rfl
      have hBs := Bs.setLast hrow hf (by rw [HML.out]; omega) (by rw [HML.out]; exact hlc) hcm _ hz0
      have hML := padded_length r l e hr0
      unfold padded at hML
      rw [HT.out] at hML
      rw [setLast_length, HML.out] at hML
      rw [HML.out] at hBs
      have hpd : setLast (padS r l e (padTo r T)) = padded r l e := by unfold padded; rw [HT.out]
      rw [hpd] at hBs
      have HPL : Hid ((padded r l e).length = T + 1 + padTo r T) := by rw [← hpd, setLast_length]; exact HML.out
      have hb3 := hbq.setCell (p := ⟨g, T + 1 + padTo r T - 1, none⟩) hgb (.int .u8 (bits .or .u8 (x.toNat : Int) 128))
      have HBS := Lib.hid hBs
      have hLn : T + 1 + padTo r T ≤ 2147483647 := by omega
      clear hBs hpd hz0 hx hO hf hrow hbq
      have HML2 := Lib.hid hML
      clear hML
      have hL0 : 1 ≤ T + 1 + padTo r T := by omega
      generalize T + 1 + padTo r T = L at *
      have b1 : (1 : Int) ≤ (L : Int) := by omega
      have b2 : ((L : Int) - 1).toNat = L - 1 := by omega
      go_wp2_with (first
        | refine wpList_bin (o := ⟨some 24, _, _, _, _, _⟩) rfl .rem 3 3 _ _ rfl (fun _ => rfl) rR rfl rfl ?_
        | refine wpList_alloc_arr rfl 34 rfl (arrOf 25 fun _ => .int .u64 0) zero25 ?_)
      have hSrow := rowIs_arr (wr.setCell ⟨g, L - 1, none⟩ (.int .u8 (bits .or .u8 (x.toNat : Int) 128))) 25 (fun _ => .int .u64 0) 34
      have hB4 := Lib.hid (HBS.out.below ((Below.refl _ _).alloc (Nat.le_refl _) (.cells (arrOf 25 fun _ => .int .u64 0) 34)) (Nat.le_refl _))
      have hb4 := hb3.alloc (by rw [World.size_setCell]; exact hbase) (.cells (arrOf 25 fun _ => .int .u64 0) 34)
      have hgs : g ≠ (wr.setCell ⟨g, L - 1, none⟩ (.int .u8 (bits .or .u8 (x.toNat : Int) 128))).heap.size := by rw [World.size_setCell]; omega
      have hbs : base ≤ (wr.setCell ⟨g, L - 1, none⟩ (.int .u8 (bits .or .u8 (x.toNat : Int) 128))).heap.size := by rw [World.size_setCell]; exact hbase
      have hsz4 : (wr.setCell ⟨g, L - 1, none⟩ (.int .u8 (bits .or .u8 (x.toNat : Int) 128))).heap.size + 1 = ((wr.setCell ⟨g, L - 1, none⟩ (.int .u8 (bits .or .u8 (x.toNat : Int) 128))).alloc (.cells (arrOf 25 fun _ => .int .u64 0) 34)).heap.size := by simp
      clear hb3 HBS hlast hfr hgl b1 b2 rR hne
      simp only [World.size_setCell] at hSrow hgs hbs hsz4
      generalize hwe : (wr.setCell ⟨g, L - 1, none⟩ (.int .u8 (bits .or .u8 (x.toNat : Int) 128))).alloc (.cells (arrOf 25 fun _ => .int .u64 0) 34) = w4 at *
      generalize hse : wr.heap.size = sb at *
      have hAw : Away (.slice (some ⟨g, 0, none⟩) L cm) sb := by
        intro x' n' c' he' _
        cases he'
        exact hgs
      have hT30' : T / r + 1 ≤ 2147483647 := by have := Nat.div_le_self T r; omega
      clear hwe hse hbase hgs hcm hlc hgb
      go_loopw [11] (fun i wr => ∃ j : Nat, j ≤ T / r + 1 ∧ i = .int .i64 ((r * j : Nat) : Int) ∧ wr.rowIs sb 34 25 (l64 (absS r (padded r l e) j)) ∧ w4.grownBy wr (some sb)) (fun i _ => L - (intOf i).toNat)
      case atStart => exact ⟨0, Nat.zero_le _, rfl, hSrow.congr fun i _ => rfl, grownBy_refl _ _⟩
      case round =>
        clear hSrow
        obtain ⟨j, hj, rfl, hS, hg⟩ := hrel
        by_cases hlt : j < T / r + 1
        · have hBw := gb_bs hB4.out hg hAw
          have hmul : r * j + r ≤ L := by
            have h1 := HML2.out
            have h2 : r * (j + 1) ≤ r * (T / r + 1) := Nat.mul_le_mul_left r (by omega)
            rw [Nat.mul_succ] at h2
            omega
          have habs : absS r (padded r l e) (j + 1) = keccak (lays (absS r (padded r l e) j) 0 (((padded r l e).drop (r * j)).take r)) := rfl
          have hsucc : r * (j + 1) = r * j + r := Nat.mul_succ r j
          have HAB := Lib.hid habs
          have HSU := Lib.hid hsucc
          clear habs hsucc
          generalize hqe : r * j = q at *
          clear hqe
          have b1 : (q : Int) + (r : Int) ≤ (L : Int) := by omega
          have b2 : (0 : Int) < (r : Int) := by omega
          go_wp2
          refine refS_lay sb r q L cm (some ⟨g, 0, none⟩) (padded r l e) (absS r (padded r l e) j) hr hmul hLn HPL hBw hAw hS ?_
          intros
          rename_i w6 h6
          obtain ⟨hS6, hg6⟩ := h6
          replace hg := grownBy_trans hg hg6
          clear hBw hS hg6
          go_wp2_with (first
            | refine wpList_load_arr rfl 34 (.tmp 10) rfl 25 arr25 hS6 rfl (by omega) ?_
            | (go_at_call 19; refine (refPermute_any _ _).mono ?_; rintro e' w7 ⟨rfl, hb7⟩
               have hS7 := hS6.of_block (hb7.block _ hS6.lt)
               replace hg := gb_new hg hb7
               clear hS6 hb7)
            | (refine wpList_store_arr rfl 34 (.tmp 10) (.tmp 73) rfl 25 arr25 hS7 rfl rfl (by omega) (fun _ _ => rfl) ?_; intro w8 hS8 hg8 hs8
               replace hg := grownBy_trans hg hg8
               replace hS8 := hS8.congr (g := l64 (absS r (padded r l e) (j + 1))) (fun i hi => by unfold putN; rw [if_pos (by omega), Nat.sub_zero, HAB.out])
               clear hg8 hs8 hS7))
          go_roundw
          case rel => exact ⟨j + 1, by omega, by rw [HSU.out]; go_num, hS8, hg⟩
          case measure => simp [intOf]; omega
        · obtain rfl : j = T / r + 1 := by omega
          have hall := absS_all r l e hr0 he
          rw [HT.out] at hall
          rw [hall] at hS
          have hLe : r * (T / r + 1) = L := HML2.out.symm
          rw [hLe]
          generalize hFe : closedS r e.toNat l = F at *
          have HF := Lib.hid hFe
          clear hFe
          have hb5 : Below base w wr := gb_below hb4 hg (by omega) hbs
          have hsb : sb < wr.heap.size := hS.lt
          have hbw : base ≤ wr.heap.size := by omega
          clear hg hb4 hall hLe hB4 hAw hsz4
          have hLL : ¬ (L : Int) < (L : Int) := by omega
          go_wp2
          have hO0 := Owns.nil wr wr.heap.size
          generalize hb2e : wr.heap.size = base2 at *
          have HB2 := Lib.hid hb2e
          clear hb2e hLL
          go_loopw [13] (fun o wq => ∃ p, p ≤ n ∧ Owns wq base2 o (outL r F p) ∧ (p < n → (gv r F p).2 = r) ∧ (∃ K, wq.rowIs sb 34 25 (l64 K) ∧ (p < n → K = keccak (gv r F p).1)) ∧ base2 ≤ wq.heap.size ∧ Below base w wq) (fun o _ => n - lenOf o)
          case atStart => exact ⟨0, Nat.zero_le _, hO0, fun _ => rfl, ⟨_, hS, fun _ => rfl⟩, by rw [HB2.out]; exact Nat.le_refl _, hb5⟩
          case round =>
            clear hO0 hS hb5
            obtain ⟨p, hp, hO, hgv, ⟨K, hS, hK2⟩, hbz, hb⟩ := hrel
            have hol : (outL r F p).length = p := outL_length _ _ _
            obtain ⟨am, co, hve⟩ := hO.shape
            rw [hol] at hve
            subst hve
            have HOL := Lib.hid hol
            clear hol
            by_cases hlt : p < n
            · have hgv2 := hgv hlt
              obtain rfl := hK2 hlt
              clear hgv hK2
              have hrun := gv_run r F p hgv2 (r - 1) (by omega)
              rw [show r - 1 + 1 = r by omega] at hrun
              have HRUN := Lib.hid hrun
              clear hrun
              have b1 : (p : Int) < (n : Int) := by omega
              go_wp2
              refine refS_give sb base2 r p n (.slice am p co) F hr hn hp hsb hbz hgv2 hO hS ?_
              intros
              rename_i x13 x14 x78 x79 x80 x81 x82 x83 x84 x85 x86 x87 x88 x89 x90 x91 x92 x93 x94 x95 x96 x97 x98 x99 x100 w6 h6
              obtain ⟨i, hi, hin, hpn, hO6, hb6⟩ := h6
              have hS6 := hS.of_block (hb6.block sb hsb)
              have hb7 := hb.trans (hb6.mono hbw)
              have hbz6 := Nat.le_trans hbz hb6.size
              have hl6 : (outL r F (p + i)).length = p + i := outL_length _ _ _
              obtain ⟨a6, c6, he6⟩ := hO6.shape
              rw [hl6] at he6
              subst he6
              have hO6' := Lib.hid hO6
              clear hO hS hb hb6 hl6 hO6
              go_wp2_with (first
                | refine wpList_load_arr rfl 34 (.tmp 10) rfl 25 arr25 hS6 rfl (by omega) ?_
                | (go_at_call 19; refine (refPermute_any _ _).mono ?_; rintro e' w7 ⟨rfl, hb8⟩
                   have hS7 := hS6.of_block (hb8.block _ hS6.lt)
                   have hb9 := hb7.trans (hb8.mono (by omega))
                   have hbz7 := Nat.le_trans hbz6 hb8.size
                   have hO7 : Hid (Owns w7 base2 (.slice a6 (p + i) c6) (outL r F (p + i))) := hO6'.out.of_block fun k _ _ hk => hb8.block k hk
                   clear hS6 hb8 hb7 hbz6 hO6')
                | (refine wpList_store_arr rfl 34 (.tmp 10) (.tmp 102) rfl 25 arr25 hS7 rfl rfl (by omega) (fun _ _ => rfl) ?_; intro w8 hS8 hg8 hs8
                   have hb10 := gb_below hb9 hg8 (by omega) hbs
                   have hbz8 := Nat.le_trans hbz7 hg8.size
                   have hO8 : Hid (Owns w8 base2 (.slice a6 (p + i) c6) (outL r F (p + i))) := hO7.out.of_block fun k _ hk1 hk => hg8.block k hk (fun e => by have := Option.some.inj e; omega)
                   replace hS8 := hS8.congr (g := l64 (keccak (keccak (gv r F p).1))) (fun i hi => by unfold putN; rw [if_pos (by omega), Nat.sub_zero])
                   clear hg8 hs8 hS7 hb9 hbz7 hO7))
              have hi1 : 1 ≤ i := by
                rcases Nat.eq_zero_or_pos i with h0 | h0
                · have := hin (by omega); omega
                · exact h0
              have hni : p + i < n → (gv r F (p + i)) = (keccak (gv r F p).1, r) := fun h => by
                have hir : i = r := by
                  by_cases h2 : i < r
                  · have := hin h2; omega
                  · omega
                rw [hir, HRUN.out]
              go_roundw
              case rel =>
                (try ((repeat apply Exists.intro); refine ⟨?_, rfl⟩))
                exact ⟨p + i, hpn, hO8.out, fun h => by rw [hni h], ⟨_, hS8, fun h => by rw [hni h]⟩, hbz8, hb10⟩
              case measure =>
                show n - (p + i) < n - p
                omega
            · obtain rfl : p = n := by omega
              have hB := hO.bs
              have b1 : ¬ (p : Int) < (p : Int) := by omega
              clear hgv hK2
              go_wp2
              go_ret
              exact ⟨.slice am p co, rfl, by unfold spongeL; rw [HF.out]; exact hB, by rw [HW.out]; exact hb⟩
    · have hx0 : ¬ (T + 1 + z) % r = 0 := fun h => hend (hmod.1 h)
      clear htm hmod
      generalize hX : (T + 1 + z) % r = X at *
      have hne : ((X : Int) != 0) = true := by simp; omega
      have HX := Lib.hid hX
      clear hX
      generalize hTZ : T + 1 + z = TZ at *
      have HTZ := Lib.hid hTZ
      clear hTZ
      go_wp2_with (first
        | refine wpList_bin (o := ⟨some 24, _, _, _, _, _⟩) rfl .rem 3 3 _ _ rfl (fun _ => rfl) rR rfl rfl ?_
        | (refine wpList_app rfl (.tmp 26) (.tmp 27) rfl base _ _ (padS r l e z) [0] (Owns.alloc hO _) (Bs.oneI _ 0 0 rfl) rfl rfl (by rw [HML.out]; simp; have := HTZ.out; omega) (Nat.le_trans hbase (by simp)) ?_; intro v7 w7 hO7 hg7
           have hb7 := (hbq.alloc hbase (.cells #[.int .u8 0] 5)).grown hg7 (Nat.le_trans hbase (by simp)) (Owns.block hO)
           clear hg7))
      obtain ⟨a7, c7, h7⟩ := hO7.shape
      have hl7 : lenOf v7 = TZ + 1 := by rw [h7]; show (padS r l e z ++ [0]).length = _; rw [List.length_append, HML.out]; rfl
      have HL7 := Lib.hid hl7
      clear hl7 h7
      go_roundw
      case rel => exact ⟨z + 1, by omega, by rw [padS_succ]; exact hO7, hb7⟩
      case measure =>
        have h1 := HL7.out
        have h2 := HTZ.out
        show T + 1 + padTo r T - lenOf v7 < T + 1 + padTo r T - TZ
        omega
end Go.Proofs.YtmfogngfdgpahaaDoor
