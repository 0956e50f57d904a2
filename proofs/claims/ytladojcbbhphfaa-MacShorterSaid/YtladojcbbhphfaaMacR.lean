/- The document's HMAC and HKDF. -/
import Derived.Test.YtladojcbbhphfaaMacB
import Derived.Test.YtladojcbbhphfaaRefA
namespace Go.Proofs.Ytladojcbbhphfaa
open Go.RowKit Go.Deep

set_option maxHeartbeats 800000 in
theorem refCat_any (v : Value) (L : List (List UInt8)) (w : World) (hv : Bss w v L) (hlen : L.flatten.length ≤ 2147483647) :
    Calls Try.prog 21 #[v] w fun e w' => ∃ v', e = .returned v' ∧ Owns w' w.heap.size v' L.flatten ∧ Below w.heap.size w w' := by
  have HV := Lib.hid hv
  obtain ⟨a, cap, rfl, h1, h2, h3, h4⟩ := hv
  clear h3 h4
  unfold maxLen at h2
  go_enter Try.func21, Try.ntmps21
  go_wp2
  generalize hn : L.flatten.length = n at *
  have HN := Lib.hid hn
  clear hn
  go_loopw [3, 4] (fun v i wr => ∃ j : Nat, j ≤ L.length ∧ i = .int .i64 j ∧ Owns wr w.heap.size v (catTo L j) ∧ Below w.heap.size w wr) (fun _ i _ => L.length - (intOf i).toNat)
  case atStart => exact ⟨0, Nat.zero_le _, rfl, Owns.nil _ _, Below.refl _ _⟩
  case round =>
    obtain ⟨j, hj, rfl, hown, hbel⟩ := hrel
    by_cases hlt : j < L.length
    · have hsum : (catTo L j).length + L[j].length ≤ n := by
        have := catTo_le L (j + 1)
        rw [catTo_succ L j hlt, List.length_append] at this
        have := HN.out
        omega
      obtain ⟨b, off, cap', he, _, _, hbl, hc⟩ := HV.out.open_cons (by omega)
      cases he
      obtain ⟨u, hcj, hu⟩ := hc j hlt
      clear hc
      have hcr : wr.cell? ⟨b, off + j, none⟩ = some u := (hbel.cell (by exact hbl)).trans hcj
      have hur : Bs wr u L[j] := hu.below hbel (Nat.le_refl _)
      have HU := Lib.hid hur
      obtain ⟨au, cu, rfl, _, _, _, _⟩ := hu
      clear hur
      go_wp2_with (refine wpList_app rfl _ _ rfl w.heap.size _ _ (catTo L j) L[j] hown HU.out rfl rfl (by omega) (by have := hbel.size; omega) ?_; intro v2 w2 hown2 hgrow2)
      have hown3 : Owns w2 w.heap.size v2 (catTo L (j + 1)) := by rw [catTo_succ L j hlt]; exact hown2
      have hbel3 : Below w.heap.size w w2 := hbel.grown hgrow2 hbel.size (Owns.block hown)
      clear hown2 hgrow2 hown hbel hcr HU hsum
      go_wp2
      go_roundw
      case rel => exact ⟨j + 1, by omega, by go_num, hown3, hbel3⟩
      case measure => simp [intOf]; omega
    · obtain rfl : j = L.length := by omega
      go_wp2
      go_ret
      exact ⟨_, rfl, by rw [← catTo_all L L.length (Nat.le_refl _)]; exact hown, hbel⟩

set_option maxHeartbeats 800000 in
theorem refFill_any (v : Value) (l : List UInt8) (n : Nat) (w : World) (hv : Bs w v l) (hn : n ≤ 2147483647) (hn0 : 0 < n) :
    Calls Try.prog 20 #[v, .int .i64 (n : Int)] w fun e w' => ∃ v', e = .returned v' ∧ Bs w' v' (fillB l n) ∧ Below w.heap.size w w' := by
  obtain ⟨a, m, cap, rfl, hm, hc1, hc2, hB0⟩ := hv.shape
  have hmk : ∀ w : World, (Instr.makeSlice 22 (.int .i64 n) (.int .i64 n)).run Try.prog w = .ok (.slice (some ⟨w.heap.size, 0, none⟩) n n) (w.alloc (.cells (madeCells #[.int .u8 0] n) 5)) :=
    fun w => run_make_row' (P := Try.prog) 22 5 (.int .u8 0) 1 Try.underlying22 Try.info5 rfl .i64 .i64 n (by omega) (by omega) w
  have hmade := World.rowIs_made w (.int .u8 0) n 5
  have hb1 : Below w.heap.size w (w.alloc (.cells (madeCells #[.int .u8 0] n) 5)) := (Below.refl _ _).alloc (Nat.le_refl _) _
  have HB := Lib.hid (hB0.below hb1 (Nat.le_refl _))
  have HM := Lib.hid hm
  clear hv hB0 hm
  go_enter Try.func20, Try.ntmps20
  go_wp2_with (refine wpList_copy_bytes rfl (.tmp 8) (.tmp 9) rfl hmade HB.out rfl rfl (by omega) _ rfl ?_; intro w3 hr3 hg3 hs3)
  go_ret
  have hb3 : Below w.heap.size w w3 := hb1.grown hg3 hb1.size (by intro k hk; cases hk; omega)
  refine ⟨_, rfl, ?_, hb3⟩
  have h := Bs.of_rowIs hr3 (fillB l n) (by rw [fillB_length]; omega) (by unfold maxLen; omega) (fun i hi => by
    rw [fillB_length] at hi
    have e : (fillB l n)[i] = l.getD i 0 := by
      rw [← fillB_get l n i hi, getD_of_lt _ i (by rw [fillB_length]; exact hi)]
    rw [e]
    unfold putN bytesAt
    by_cases h1 : i < Nat.min l.length n
    · rw [if_pos ⟨by omega, by omega⟩, Nat.sub_zero]
    · have h2 : l.length ≤ i := by
        have e2 : Nat.min l.length n = min l.length n := rfl
        rw [e2] at h1
        omega
      rw [if_neg (by omega), List.getD_eq_getElem?_getD, List.getElem?_eq_none h2]
      rfl)
  rwa [fillB_length] at h

/-- The two rows of the document's loop: so many of them are laid. -/
def mAt (p : List UInt8) (m : UInt8) (j : Nat) : Nat → Value := fun i => if i < j then .int .u8 ((p.getD i 0 ^^^ m).toNat : Int) else .int .u8 0
theorem mAt_step {w : World} {g : Nat} {p : List UInt8} {m : UInt8} {j : Nat} {v : Int} (h : w.rowIs g 5 64 (mAt p m j)) (hv : v = ((p.getD j 0 ^^^ m).toNat : Int)) : (w.setCell ⟨g, j, none⟩ (.int .u8 v)).rowIs g 5 64 (mAt p m (j + 1)) :=
  (h.set j _).congr fun i hi => by
    show (if i = j then _ else _) = _
    unfold mAt
    by_cases e : i = j
    · subst e
      rw [if_pos rfl, if_pos (by omega), hv]
    · rw [if_neg e]
      by_cases h2 : i < j
      · rw [if_pos h2, if_pos (by omega)]
      · rw [if_neg h2, if_neg (by omega)]
theorem mAt_all {w : World} {g : Nat} {p : List UInt8} {m : UInt8} (hp : p.length = 64) (h : w.rowIs g 5 64 (mAt p m 64)) : Bs w (.slice (some ⟨g, 0, none⟩) 64 64) (xorM m p) := by
  have h2 := Bs.of_rowIs h (xorM m p) (by rw [xorM_length]; omega) (by unfold maxLen; omega) (fun i hi => by
    rw [xorM_length] at hi
    unfold mAt
    rw [if_pos (by omega)]
    simp [xorM, hi])
  rwa [xorM_length, hp] at h2

set_option maxHeartbeats 2000000 in
/-- From behind the key's sum. -/
theorem refMac_any (vk v : Value) (key l : List UInt8) (w : World) (hk : Bs w vk key) (hkl : key.length < 2 ^ 29) (hv : Bs w v l) (hl : l.length < 2 ^ 29) :
    Calls Try.prog 8 #[vk, v] w fun e w' => ∃ v', e = .returned v' ∧ Owns w' w.heap.size v' (hmac key l) ∧ Below w.heap.size w w' := by
  obtain ⟨a, n, cap, rfl, hn, hc1, hc2, hB0⟩ := hk.shape
  have HV := Lib.hid hv
  have HL := Lib.hid hl
  have HKL := Lib.hid hkl
  have HB0 := Lib.hid hB0
  have hmk : ∀ w : World, (Instr.makeSlice 22 (.int .i64 64) (.int .i64 64)).run Try.prog w = .ok (.slice (some ⟨w.heap.size, 0, none⟩) 64 64) (w.alloc (.cells (madeCells #[.int .u8 0] 64) 5)) :=
    fun w => run_make_row' (P := Try.prog) 22 5 (.int .u8 0) 1 Try.underlying22 Try.info5 rfl .i64 .i64 64 (by omega) (by omega) w
  have hmade := fun w : World => World.rowIs_made w (.int .u8 0) 64 5
  generalize hcells : (Obj.cells (madeCells #[.int .u8 0] 64) 5) = cells at *
  have hpl := padK_length key
  have HP := Lib.hid hpl
  clear hk hv hl hkl hB0 hpl
  go_enter Try.func8, Try.ntmps8
  by_cases hlong : 64 < n
  focus
    have hsh : shortK key = k256.sum key := by unfold shortK; rw [if_pos (by omega)]
    have hlI : (64 : Int) < (n : Int) := by omega
    clear hn hlong
    go_wp2_with (first
      | (go_at_call 18; refine (ref256_any _ _ _ HB0.out (by have := HKL.out; omega)).mono ?_; rintro e w1 ⟨v1, rfl, hB1, hb1⟩
         rw [← hsh] at hB1)
      | (go_at_call 20; refine (refFill_any _ _ 64 _ hB1 (by omega) (by omega)).mono ?_; rintro e w2 ⟨v2, rfl, hB2, hb2⟩
         have hb02 : Below w.heap.size w w2 := hb1.trans (hb2.mono hb1.size)
         obtain ⟨a2, n2, c2, rfl, hn2, hc21, hc22, hB2⟩ := hB2.shape
         obtain rfl : n2 = 64 := by rw [← hn2]; exact fillB_length _ _
         clear hn2 hb2))
  rotate_left
  focus
    have hsh : shortK key = key := by unfold shortK; rw [if_neg (by omega)]
    have hlI : (n : Int) ≤ (64 : Int) := by omega
    rw [← hsh] at HB0
    clear hn hlong
    go_wp2_with (first
      | (go_at_call 20; refine (refFill_any _ _ 64 _ HB0.out (by omega) (by omega)).mono ?_; rintro e w2 ⟨v2, rfl, hB2, hb2⟩
         have hb02 : Below w.heap.size w w2 := hb2
         obtain ⟨a2, n2, c2, rfl, hn2, hc21, hc22, hB2⟩ := hB2.shape
         obtain rfl : n2 = 64 := by rw [← hn2]; exact fillB_length _ _
         clear hn2 hb2))
  all_goals
    obtain ⟨p, hp⟩ : ∃ p, p = padK key := ⟨_, rfl⟩
    have hpl := HP.out
    rw [← hp] at hpl
    replace hB2 : Bs w2 (.slice a2 64 c2) p := by rw [hp]; exact hB2
    have HPE := Lib.hid hp
    have hrI : ((w2.alloc cells).alloc cells).rowIs w2.heap.size 5 64 (mAt p 0x36 0) := ((hmade w2).alloc _).congr fun i _ => rfl
    have hrO : ((w2.alloc cells).alloc cells).rowIs (w2.heap.size + 1) 5 64 (mAt p 0x5c 0) := by
      have h := (hmade (w2.alloc cells)).congr (g := mAt p 0x5c 0) fun i _ => rfl
      rw [World.size_alloc] at h
      exact h
    have hb3 : Below w2.heap.size w2 ((w2.alloc cells).alloc cells) := ((Below.refl _ _).alloc (Nat.le_refl _) _).alloc (by simp) _
    generalize hgI : w2.heap.size = gI at *
    generalize hgO : gI + 1 = gO at *
    have hne : gO ≠ gI := by omega
    have hne' : gI ≠ gO := by omega
    generalize ((w2.alloc cells).alloc cells) = w3 at *
    have HGI := Lib.hid hgI
    have HGO := Lib.hid hgO
    have HHV := Lib.hid (HV.out.below (hb02.trans (hb3.mono (by rw [← hgI]; exact hb02.size))) (Nat.le_refl _))
    clear hgI hgO hp hmk hmade hcells
    go_loopw [8] (fun i wr => ∃ j : Nat, j ≤ 64 ∧ i = .int .i64 j ∧ wr.rowIs gI 5 64 (mAt p 0x36 j) ∧ wr.rowIs gO 5 64 (mAt p 0x5c j) ∧ Below gI w2 wr) (fun i _ => 64 - (intOf i).toNat)
    case atStart => exact ⟨0, Nat.zero_le _, rfl, hrI, hrO, hb3⟩
    case round =>
      clear hrI hrO hb3
      obtain ⟨j, hj, rfl, hrI, hrO, hbel⟩ := hrel
      by_cases hlt : j < 64
      · obtain ⟨b2, o2, _, he, _, _, l2, hc⟩ := hB2.open_n hpl (by omega)
        cases he
        have hjp : j < p.length := by omega
        have hbI : b2 ≠ gI := by have := HGI.out; omega
        have hbO : b2 ≠ gO := by have := HGI.out; have := HGO.out; omega
        have hcl : wr.cell? ⟨b2, o2 + j, none⟩ = some (.int .u8 ((p[j]).toNat : Int)) := (hbel.cell (by have := HGI.out; exact (by omega : b2 < gI))).trans (hc j hjp)
        have hxI := bits_xorB p[j] 0x36
        have hxO := bits_xorB p[j] 0x5c
        rw [show ((0x36 : UInt8).toNat : Int) = 54 from rfl] at hxI
        rw [show ((0x5c : UInt8).toNat : Int) = 92 from rfl] at hxO
        have hpj : p.getD j 0 = p[j] := getD_of_lt p j hjp
        have hcI := hrI.cell hlt
        have hfI := hrI.frozen j
        have hcO := hrO.cell hlt
        have hfO := hrO.frozen j
        have hj64 : (j : Int) < 64 := by omega
        clear hc
        generalize p[j] = q at *
        have HPJ := Lib.hid hpj
        clear hpj
        go_wp2
        go_roundw
        case rel =>
          refine ⟨j + 1, by omega, by go_num, (mAt_step hrI (by rw [HPJ.out, UInt8.toNat_xor]; rfl)).setOther hne' _, mAt_step (hrO.setOther hne _) (by rw [HPJ.out, UInt8.toNat_xor]; rfl), (hbel.setCell (Nat.le_refl _) _).setCell (by show gI ≤ gO; have := HGO.out; omega) _⟩
        case measure => simp [intOf]; omega
      · obtain rfl : j = 64 := by omega
        have hI := mAt_all hpl hrI
        have hO := mAt_all hpl hrO
        have hbw : Below w.heap.size w wr := hb02.trans (hbel.mono (by have := HGI.out; have := hb02.size; omega))
        have hV := HV.out.below hbw (Nat.le_refl _)
        obtain ⟨av, nv, cv, hve, hnv, hcv1, hcv2, hV2⟩ := hV.shape
        subst hve
        have hRI := Lib.hid (Bss.two hI hV2 rfl)
        have hb4 : Below wr.heap.size wr (wr.alloc (.cells #[.slice (some ⟨gI, 0, none⟩) 64 64, .slice av nv cv] 22)) := (Below.refl _ _).alloc (Nat.le_refl _) _
        have hO4 := hO
        have hxl : ∀ m, (xorM m p).length = 64 := fun m => by rw [xorM_length, hpl]
        have HXL := Lib.hid hxl
        have hfI : ([xorM 0x36 p, l] : List (List UInt8)).flatten = xorM 0x36 p ++ l := by simp only [List.flatten_cons, List.flatten_nil, List.append_nil]
        have HFI := Lib.hid hfI
        have hfO : ∀ s, ([xorM 0x5c p, s] : List (List UInt8)).flatten = xorM 0x5c p ++ s := fun s => by simp only [List.flatten_cons, List.flatten_nil, List.append_nil]
        have HFO := Lib.hid hfO
        clear hrI hrO hI hO hV hV2 hnv hxl hfI hfO hbel
        go_wp2_with (first
          | (go_at_call 21
             first
               | (refine (refCat_any _ _ _ hRI.out (by rw [HFI.out, List.length_append, HXL.out]; have := HL.out; omega)).mono ?_; rintro e w5 ⟨v5, rfl, hO5, hb5⟩
                  have hB5 := hO5.bs
                  rw [HFI.out] at hB5
                  replace hb5 := hb4.trans (hb5.mono hb4.size)
                  clear hO5 hRI)
               | (refine (refCat_any _ _ _ hRO.out (by rw [HFO.out, List.length_append, HXL.out, sum256_length]; omega)).mono ?_; rintro e w7 ⟨v7, rfl, hO7, hb7⟩
                  have hB7 := hO7.bs
                  rw [HFO.out] at hB7
                  replace hb7 := hb6R.trans (hb7.mono hb6R.size)
                  clear hO7 hRO))
          | (go_at_call 18
             first
               | (refine (ref256_any _ _ _ hB5 (by rw [List.length_append, HXL.out]; have := HL.out; omega)).mono ?_; rintro e w6 ⟨v6, rfl, hB6, hb6⟩
                  obtain ⟨a6, n6, c6, rfl, hn6, hc61, hc62, hB6⟩ := hB6.shape
                  have hb06 : Below wr.heap.size wr w6 := hb5.trans (hb6.mono hb5.size)
                  have hRO := Lib.hid (Bss.two (hO4.below hb06 (Nat.le_refl _)) hB6 rfl)
                  have hb6R := hb06.alloc hb06.size (.cells #[.slice (some ⟨gO, 0, none⟩) 64 64, .slice a6 n6 c6] 22)
                  clear hB5)
               | (refine (ref256O_any _ _ _ hB7 (by rw [List.length_append, HXL.out, sum256_length]; omega)).mono ?_; rintro e w8 ⟨v8, rfl, hO8, hb8⟩
                  have hB8 := hO8.lower (Nat.le_trans hbw.size hb7.size)
                  have hb08 : Below wr.heap.size wr w8 := hb7.trans (hb8.mono hb7.size))))
        go_ret
        exact ⟨_, rfl, by unfold hmac; rw [← HPE.out]; exact hB8, hbw.trans (hb08.mono hbw.size)⟩
set_option maxHeartbeats 2000000 in
theorem refExpand_any (vp vi : Value) (prk info : List UInt8) (n : Int) (w : World) (hp : Bs w vp prk) (hpl : prk.length < 2 ^ 28) (hi : Bs w vi info) (hil : info.length < 2 ^ 28) (hn : (Lit.int .i64 n).wf = true) :
    Calls Try.prog 17 #[vp, vi, .int .i64 n] w fun e w' => ∃ v', e = .returned v' ∧ Bs w' v' (expandL prk info n) ∧ Below w.heap.size w w' := by
  have HP := Lib.hid hp
  have HPL := Lib.hid hpl
  by_cases h1 : n < 1
  · rw [expandL_out _ _ _ (.inl h1)]
    clear hn hi
    go_enter Try.func17, Try.ntmps17
    go_wp2
    go_ret
    exact ⟨_, rfl, Bs.nil _, Below.refl _ _⟩
  · by_cases h2 : 8160 < n
    · rw [expandL_out _ _ _ (.inr h2)]
      clear hn hi
      go_enter Try.func17, Try.ntmps17
      go_wp2
      go_ret
      exact ⟨_, rfl, Bs.nil _, Below.refl _ _⟩
    · obtain ⟨m, rfl⟩ : ∃ m : Nat, n = (m : Int) := ⟨n.toNat, by omega⟩
      rw [expandL_in _ _ _ (by omega)]
      have hm1 : 1 ≤ m := by omega
      have hm2 : m ≤ 8160 := by omega
      simp only [Int.toNat_natCast]
      obtain ⟨ai, ni, ci, rfl, hni, hci1, hci2, hI0⟩ := hi.shape
      have HI := Lib.hid hI0
      have HIL := Lib.hid hil
      have HLEN := Lib.hid (hkTo_length prk info)
      clear hn hi hp hpl hil hI0 hni
      go_enter Try.func17, Try.ntmps17
      go_wp2
      go_loopw [7, 8, 9] (fun out last c wr => ∃ j : Nat, c = .int .i64 ((j + 1 : Nat) : Int) ∧ (j = 0 ∨ 32 * (j - 1) < m) ∧ Owns wr w.heap.size out (hkTo prk info j) ∧ Bs wr last (hkN prk info j) ∧ Below w.heap.size w wr) (fun _ _ c _ => m + 64 - 32 * (intOf c).toNat)
      case atStart => exact ⟨0, rfl, .inl rfl, Owns.nil _ _, Bs.nil _, Below.refl _ _⟩
      case round =>
        obtain ⟨j, rfl, hjn, hown, hlast, hbel⟩ := hrel
        obtain ⟨ao, co, hoe⟩ := hown.shape
        have hol := HLEN.out j
        rw [hol] at hoe
        subst hoe
        by_cases hlt : 32 * j < m
        · have hcb : ((UInt8.ofNat (j + 1)).toNat : Int) = (j : Int) + 1 := by
            simp only [UInt8.toNat_ofNat']
            omega
          obtain ⟨al, nl, cl, rfl, hnl, hcl1, hcl2, hL0⟩ := hlast.shape
          have hone := Bs.one wr (UInt8.ofNat (j + 1))
          rw [hcb] at hone
          have hN1 := hkN_length prk info j
          have hNle := hkN_le prk info j
          have hb1 : Below wr.heap.size wr (wr.alloc (.cells #[.int .u8 ((j : Int) + 1)] 5)) := (Below.refl _ _).alloc (Nat.le_refl _) _
          have hI1 := (HI.out.below hbel (Nat.le_refl _)).below hb1 (Nat.le_refl _)
          have hL1 := hL0.below hb1 (Nat.le_refl _)
          have hR := Bss.three hL1 hI1 hone (n := wr.heap.size + 1) (by simp)
          have hb2 : Below wr.heap.size wr ((wr.alloc (.cells #[.int .u8 ((j : Int) + 1)] 5)).alloc (.cells #[.slice al nl cl, .slice ai ni ci, .slice (some ⟨wr.heap.size, 0, none⟩) 1 1] 22)) := hb1.alloc hb1.size _
          have hfl : ([hkN prk info j, info, [UInt8.ofNat (j + 1)]] : List (List UInt8)).flatten = hkN prk info j ++ info ++ [UInt8.ofNat (j + 1)] := by simp
          have hfll : (hkN prk info j ++ info ++ [UInt8.ofNat (j + 1)]).length < 2 ^ 29 := by simp only [List.length_append, List.length_singleton]; have := HIL.out; omega
          have HFL := Lib.hid hfl
          have HR := Lib.hid hR
          have HFLL := Lib.hid hfll
          have HO := Lib.hid hown
          have HPB := Lib.hid (HP.out.below hbel (Nat.le_refl _))
          clear hone hb1 hI1 hL1 hR hL0 hfl hfll hlast hown hnl hNle
          go_wp2_with (first
            | (go_at_call 21; refine (refCat_any _ _ _ HR.out (by rw [HFL.out]; have := HFLL.out; omega)).mono ?_; rintro e w3 ⟨v3, rfl, hO3, hb3⟩
               rw [HFL.out] at hO3
               replace hb3 := hb2.trans (hb3.mono hb2.size)
               have hP3 := HPB.out.below hb3 (Nat.le_refl _))
            | (go_at_call 8; refine (refMac_any _ _ prk _ _ hP3 (by have := HPL.out; omega) hO3.bs HFLL.out).mono ?_; rintro e w4 ⟨v4, rfl, hO4, hb4⟩
               have hb04 : Below wr.heap.size wr w4 := hb3.trans (hb4.mono hb3.size)
               have HA4 : Hid (∀ b, (Value.slice ao (32 * j) co).ownBlock = some b → Away v4 b) := Lib.hid fun b hb => hO4.away (by have := (World.ownsRow.lt HO.out b hb).2; have := hb3.size; omega)
               have HO5 := Lib.hid (HO.out.below hb04)
               have hB4 : Bs w4 v4 (hkN prk info (j + 1)) := hO4.bs
               have hbw4 : Below w.heap.size w w4 := hbel.trans (hb04.mono hbel.size)
               clear hO3 hP3 hb3 hb4 hO4 hb2)
            | (refine wpList_app rfl (.tmp 31) (.tmp 32) rfl w.heap.size _ _ _ _ HO5.out hB4 rfl rfl (by rw [hol, hN1]; omega) hbw4.size ?_; intro v5 w5 hO6 hg5))
          have hbel5 : Below w.heap.size w w5 := hbw4.grown hg5 hbw4.size (Owns.block HO5.out)
          have hB5 : Bs w5 v4 (hkN prk info (j + 1)) := hB4.grownOwn hg5 HO5.out (fun b _ hb => HA4.out b hb)
          clear HO5 hg5 hbw4 hB4
          go_wp2
          go_roundw
          case rel => exact ⟨j + 1, by go_num, .inr (by omega), hO6, hB5, hbel5⟩
          case measure => simp [intOf]; omega
        · have hj1 : 1 ≤ j := by omega
          have HB := Lib.hid hown.bs
          have hall : (hkTo prk info j).take m = hkdfL prk info m := by
            unfold hkdfL
            rw [show (m + 31) / 32 = j by omega]
          have HALL := Lib.hid hall
          clear hlast hall hown
          go_wp2_with (refine wpList_bsTo rfl (.tmp 34) (.tmp 35) rfl HB.out m rfl rfl rfl (by omega) (by omega) ?_; intro hB4)
          go_ret
          exact ⟨_, rfl, by rw [← HALL.out]; exact hB4, hbel⟩

set_option maxHeartbeats 800000 in
theorem refDerive_any (vs vk vi : Value) (salt ikm info : List UInt8) (n : Int) (w : World) (hs : Bs w vs salt) (hsl : salt.length < 2 ^ 28) (hk : Bs w vk ikm) (hkl : ikm.length < 2 ^ 28) (hi : Bs w vi info) (hil : info.length < 2 ^ 28) (hn : (Lit.int .i64 n).wf = true) :
    Calls Try.prog 15 #[vs, vk, vi, .int .i64 n] w fun e w' => ∃ v', e = .returned v' ∧ Bs w' v' (deriveL salt ikm info n) ∧ Below w.heap.size w w' := by
  have HS := Lib.hid hs
  have HK := Lib.hid hk
  have HI := Lib.hid hi
  have HSL := Lib.hid hsl
  have HKL := Lib.hid hkl
  have HIL := Lib.hid hil
  clear hs hsl hk hkl hi hil
  go_enter Try.func15, Try.ntmps15
  go_wp2_with (first
    | (go_at_call 8; refine (refMac_any _ _ salt ikm _ HS.out (by have := HSL.out; omega) HK.out (by have := HKL.out; omega)).mono ?_; rintro e w1 ⟨v1, rfl, hO1, hb1⟩
       have hB1 := hO1.bs
       have HI1 := Lib.hid (HI.out.below hb1 (Nat.le_refl _)))
    | (go_at_call 17; refine (refExpand_any _ _ _ info n _ hB1 (by rw [hmac_length]; decide) HI1.out HIL.out hn).mono ?_; rintro e w2 ⟨v2, rfl, hB2, hb2⟩
       have hb02 := hb1.trans (hb2.mono hb1.size)))
  go_ret
  exact ⟨_, rfl, hB2, hb02⟩
end Go.Proofs.Ytladojcbbhphfaa
