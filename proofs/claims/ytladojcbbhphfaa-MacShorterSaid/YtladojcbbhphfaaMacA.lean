/- The program's HMAC: begun, NewKey, Key.Mac, Mac, Extract. -/
import Derived.Test.YtladojcbbhphfaaMacM
import Derived.Test.YtladojcbbhphfaaXor
import Derived.Test.YtladojcbbhphfaaGrow
namespace Go.Proofs.Ytladojcbbhphfaa
open Go.RowKit Go.Deep

theorem zero64b : (Try.prog.info? 40).map (fun i => i.zero) = some (some (.agg (arrOf 64 fun _ => .int .u8 0))) := by kernel_rfl
theorem zeroKey : (Try.prog.info? 42).map (fun i => i.zero) = some (some (.agg (arrOf 64 fun _ => .int .u8 0))) := by kernel_rfl

/-- At block y lies the key. -/
def KeyAt (w : World) (y : Nat) (key : List UInt8) : Prop := w.rowIs y 42 64 (bytesAt (padK key))
theorem KeyAt.below {w w' : World} {y B : Nat} {key : List UInt8} (h : KeyAt w y key) (hb : Below B w w') (hB : w.heap.size ≤ B) : KeyAt w' y key := World.rowIs.of_block h (hb.block _ (Nat.lt_of_lt_of_le (World.rowIs.lt h) hB))

set_option maxHeartbeats 2000000 in
theorem begun_any (y : Nat) (key : List UInt8) (mk : UInt8) (w : World) (hK : KeyAt w y key) :
    Calls Try.prog 23 #[.pointer (some ⟨y, 0, none⟩), .int .u8 (mk.toNat : Int)] w fun e w' => ∃ y', e = .returned (.pointer (some ⟨y', 0, none⟩)) ∧ w.heap.size ≤ y' ∧ HashAt w' y' (xorM mk (padK key)) ∧ Below w.heap.size w w' := by
  have hK0 : w.rowIs y 42 64 (bytesAt (padK key)) := hK
  have hpl := padK_length key
  obtain ⟨p, hp⟩ : ∃ p, p = padK key := ⟨_, rfl⟩
  rw [← hp] at hK0 hpl
  have HP := Lib.hid hp
  have hnew := rowIs_arr w 64 (fun _ => .int .u8 0) 40
  clear hK hp
  go_enter Try.func23, Try.ntmps23
  go_wp2_with (first
    | refine wpList_load_arr rfl 40 (.tmp 10) rfl 64 arrB_32 hK0 rfl (by omega) ?_
    | refine wpList_alloc_arr rfl 40 rfl (arrOf 64 fun _ => .int .u8 0) zero64b ?_
    | (refine wpList_store_arr rfl 40 (.tmp 5) (.tmp 11) rfl 64 arrB_32 hnew rfl rfl (by omega) (fun _ _ => rfl) ?_; intro w1 hr1 hg1 hs1))
  have hb1 : Below w.heap.size w w1 := ((Below.refl _ _).alloc (Nat.le_refl _) _).grown hg1 (by simp) (by intro k hk; cases hk; omega)
  replace hr1 : w1.rowIs w.heap.size 40 64 (fun i => if i < 0 then .int .u8 ((p.getD i 0 ^^^ mk).toNat : Int) else .int .u8 ((p.getD i 0).toNat : Int)) := hr1.congr fun i hi => by
    unfold putN bytesAt
    rw [if_pos ⟨by omega, by omega⟩, if_neg (by omega)]
    simp
  clear hK0 hnew hg1 hs1
  go_loopw [12] (fun i wr => ∃ j : Nat, j ≤ 64 ∧ i = .int .i64 j ∧ wr.rowIs w.heap.size 40 64 (fun i => if i < j then .int .u8 ((p.getD i 0 ^^^ mk).toNat : Int) else .int .u8 ((p.getD i 0).toNat : Int)) ∧ Below w.heap.size w wr) (fun i _ => 64 - (intOf i).toNat)
  case atStart => exact ⟨0, Nat.zero_le _, rfl, hr1, hb1⟩
  case round =>
    clear hr1 hb1
    obtain ⟨j, hj, rfl, hrow, hbel⟩ := hrel
    by_cases hlt : j < 64
    · have hcell := hrow.cell hlt
      rw [if_neg (Nat.lt_irrefl j)] at hcell
      have hfr := hrow.frozen j
      have hx := bits_xorB (p.getD j 0) mk
      have hj8 : (j : Int) < 64 := by omega
      generalize hq : p.getD j 0 = q at *
      have HQ := Lib.hid hq
      clear hq
      go_wp2
      go_roundw
      case rel =>
        refine ⟨j + 1, by omega, by go_num, (hrow.set j _).congr fun i hi => ?_, hbel.setCell (Nat.le_refl _) _⟩
        show (if i = j then _ else _) = _
        by_cases e : i = j
        · subst e
          rw [if_pos rfl, if_pos (by omega), HQ.out, UInt8.toNat_xor]
        · rw [if_neg e]
          by_cases h2 : i < j
          · rw [if_pos h2, if_pos (by omega)]
          · rw [if_neg h2, if_neg (by omega)]
      case measure => simp [intOf]; omega
    · obtain rfl : j = 64 := by omega
      have hB : Bs wr (.slice (some ⟨w.heap.size, 0, none⟩) 64 64) (xorM mk p) := by
        have h := Bs.of_rowIs hrow (xorM mk p) (by rw [xorM_length]; omega) (by unfold maxLen; omega) (fun i hi => by
          rw [xorM_length] at hi
          rw [if_pos (by omega)]
          simp [xorM, hi])
        rwa [xorM_length, hpl] at h
      have hlt0 := hrow.lt
      have HB := Lib.hid (hB.below ((Below.refl _ _).alloc (Nat.le_refl _) (.cells (arrOf 73 (hashF zero8 (fun _ => 0) 0)) 62)) (Nat.le_refl _))
      have hnewh := HashAt.new wr
      have hA : Away (.slice (some ⟨w.heap.size, 0, none⟩) 64 64) wr.heap.size := hB.away (Nat.le_refl _)
      have hb2 := hbel.alloc hbel.size (.cells (arrOf 73 (hashF zero8 (fun _ => 0) 0)) 62)
      have hsz := hbel.size
      have hxl : (xorM mk p).length = 64 := by rw [xorM_length, hpl]
      clear hrow hB
      go_wp2_with (first
        | refine wpList_alloc_arr rfl 62 rfl (arrOf 73 (hashF zero8 (fun _ => 0) 0)) zero73 ?_
        | refine wpList_op rfl (.slice 40 (.tmp 5) none none none) 22 (.slice (some ⟨w.heap.size, 0, none⟩) 64 64) rfl rfl (exec_sliceAll _ _ _ _ _ Try.underlying40 (by kernel_rfl) rfl (by omega)) ?_
        | (go_at_call 24; refine (hadd_any wr.heap.size [] _ _ _ hnewh HB.out hA (by rw [hxl]; decide)).mono ?_; rintro e w3 ⟨rfl, hH3, hg3⟩
           have hb3 : Below w.heap.size w w3 := hb2.grown hg3 hb2.size (by intro k hk; cases hk; omega)))
      go_wp2
      go_ret
      exact ⟨_, rfl, hsz, by rw [← HP.out]; exact hH3, hb3⟩

theorem copied_key (key : List UInt8) (i : Nat) (hi : i < 64) : putN (fun _ => .int .u8 0) 0 (Nat.min (shortK key).length 64) (bytesAt (shortK key)) i = bytesAt (padK key) i := by
  have hle := shortK_le key
  unfold putN bytesAt
  rw [show (padK key).getD i 0 = (shortK key).getD i 0 from fillB_get _ _ _ hi]
  have hmin : Nat.min (shortK key).length 64 = (shortK key).length := Nat.min_eq_left hle
  rw [hmin]
  by_cases e : i < (shortK key).length
  · rw [if_pos ⟨by omega, by omega⟩, Nat.sub_zero]
  · rw [if_neg (by omega), List.getD_eq_getElem?_getD, List.getElem?_eq_none (by omega)]
    rfl

set_option maxHeartbeats 2000000 in
theorem newKey_any (v : Value) (key : List UInt8) (w : World) (hv : Bs w v key) (hlen : key.length < 2 ^ 30) :
    Calls Try.prog 10 #[v] w fun e w' => ∃ y, e = .returned (.pointer (some ⟨y, 0, none⟩)) ∧ w.heap.size ≤ y ∧ KeyAt w' y key ∧ Below w.heap.size w w' := by
  obtain ⟨a, n, cap, rfl, hn, hc1, hc2, hB0⟩ := hv.shape
  clear hv
  have hnewf := fun W : World => rowIs_arr W 64 (fun _ => .int .u8 0) 42
  by_cases hlong : 64 < n
  · have hsh : shortK key = k256.sum key := by unfold shortK; rw [if_pos (by omega)]
    have hlI : (64 : Int) < (n : Int) := by omega
    have hR := Lib.hid (Bss.one hB0 rfl)
    have hbR : Below w.heap.size w (w.alloc (.cells #[.slice a n cap] 22)) := (Below.refl _ _).alloc (Nat.le_refl _) _
    have HN := Lib.hid hn
    have HL := Lib.hid hlen
    clear hn hlen hlong hB0
    go_enter Try.func10, Try.ntmps10
    go_wp2_with (first
      | (go_at_call 22; refine (sum256_any _ _ _ hR.out (by have := HL.out; simp only [List.flatten_cons, List.flatten_nil, List.append_nil]; omega)).mono ?_; rintro e w1 ⟨v1, rfl, hB1, hb1⟩
         have hb : Below w.heap.size w w1 := hbR.trans (hb1.mono hbR.size)
         simp only [List.flatten_cons, List.flatten_nil, List.append_nil] at hB1
         rw [← hsh] at hB1
         clear hb1 hR hbR
         have HB2 := Lib.hid (hB1.below ((Below.refl _ _).alloc (Nat.le_refl _) (.cells (arrOf 64 fun _ => .int .u8 0) 42)) (Nat.le_refl _))
         have hsz := hb.size
         have hb2 := hb.alloc hb.size (.cells (arrOf 64 fun _ => .int .u8 0) 42)
         clear hB1)
      | refine wpList_alloc_arr rfl 42 rfl (arrOf 64 fun _ => .int .u8 0) zeroKey ?_
      | refine wpList_op rfl (.slice 40 (.tmp 13) none none none) 22 (.slice (some ⟨_, 0, none⟩) 64 64) rfl rfl (exec_sliceAll _ _ _ _ _ Try.underlying40 (by kernel_rfl) rfl (by omega)) ?_
      | (refine wpList_copy_bytes rfl (.tmp 14) (.tmp 15) rfl (hnewf _) HB2.out rfl rfl (by omega) _ rfl ?_; intro w3 hr3 hg3 hs3))
    go_ret
    refine ⟨_, rfl, hsz, World.rowIs.congr hr3 fun i hi => copied_key key i hi, hb2.grown hg3 hb2.size (by intro k hk; cases hk; exact hsz)⟩
  · have hsh : shortK key = key := by unfold shortK; rw [if_neg (by omega)]
    have hlI : (n : Int) ≤ (64 : Int) := by omega
    rw [← hsh] at hB0
    have hb : Below w.heap.size w w := Below.refl _ _
    have hB1 := hB0
    have HB2 := Lib.hid (hB1.below ((Below.refl _ _).alloc (Nat.le_refl _) (.cells (arrOf 64 fun _ => .int .u8 0) 42)) (Nat.le_refl _))
    have hsz := hb.size
    have hb2 := hb.alloc hb.size (.cells (arrOf 64 fun _ => .int .u8 0) 42)
    clear hB1
    clear hn hlen hlong hB0 hsh
    go_enter Try.func10, Try.ntmps10
    go_wp2_with (first
      | refine wpList_alloc_arr rfl 42 rfl (arrOf 64 fun _ => .int .u8 0) zeroKey ?_
      | refine wpList_op rfl (.slice 40 (.tmp 13) none none none) 22 (.slice (some ⟨_, 0, none⟩) 64 64) rfl rfl (exec_sliceAll _ _ _ _ _ Try.underlying40 (by kernel_rfl) rfl (by omega)) ?_
      | (refine wpList_copy_bytes rfl (.tmp 14) (.tmp 15) rfl (hnewf _) HB2.out rfl rfl (by omega) _ rfl ?_; intro w3 hr3 hg3 hs3))
    go_ret
    refine ⟨_, rfl, hsz, World.rowIs.congr hr3 fun i hi => copied_key key i hi, hb2.grown hg3 hb2.size (by intro k hk; cases hk; exact hsz)⟩

set_option maxHeartbeats 2000000 in
theorem kmac_any (y : Nat) (key : List UInt8) (v : Value) (L : List (List UInt8)) (w : World) (hK : KeyAt w y key) (hv : Bss w v L) (hlen : L.flatten.length < 2 ^ 58) :
    Calls Try.prog 11 #[.pointer (some ⟨y, 0, none⟩), v] w fun e w' => ∃ v', e = .returned v' ∧ Owns w' w.heap.size v' (hmac key L.flatten) ∧ Below w.heap.size w w' := by
  have HV := Lib.hid hv
  obtain ⟨a, cap, rfl, h1, h2, h3, h4⟩ := hv
  clear h3 h4
  unfold maxLen at h2
  have hi36 : ((0x36 : UInt8).toNat : Int) = 54 := rfl
  have ho5c : ((0x5c : UInt8).toNat : Int) = 92 := rfl
  have hB36 := fun w hK => begun_any y key 0x36 w hK
  have hB5c := fun w hK => begun_any y key 0x5c w hK
  rw [hi36] at hB36
  rw [ho5c] at hB5c
  have hpx : ∀ m, (xorM m (padK key)).length = 64 := fun m => by rw [xorM_length, padK_length]
  have HX := Lib.hid hpx
  have HK := Lib.hid hK
  clear hi36 ho5c hpx hK
  go_enter Try.func11, Try.ntmps11
  go_wp2_with (go_at_call 23; refine (hB36 _ HK.out).mono ?_; rintro e w1 ⟨y1, rfl, hy1, hH1, hb1⟩)
  go_loopw [15] (fun i wr => ∃ j : Nat, j ≤ L.length ∧ i = .int .i64 j ∧ HashAt wr y1 (xorM 0x36 (padK key) ++ catTo L j) ∧ Below w.heap.size w wr) (fun i _ => L.length - (intOf i).toNat)
  case atStart => exact ⟨0, Nat.zero_le _, rfl, by simpa [catTo] using hH1, hb1⟩
  case round =>
    clear hH1 hb1
    obtain ⟨j, hj, rfl, hH, hbel⟩ := hrel
    by_cases hlt : j < L.length
    · have hsum : (catTo L j).length + L[j].length ≤ L.flatten.length := by
        have := catTo_le L (j + 1)
        rw [catTo_succ L j hlt, List.length_append] at this
        exact this
      obtain ⟨b, off, cap', he, _, _, hbl, hc⟩ := HV.out.open_cons (by omega)
      cases he
      obtain ⟨u, hcj, hu⟩ := hc j hlt
      clear hc
      have hcr : wr.cell? ⟨b, off + j, none⟩ = some u := (hbel.cell (by exact hbl)).trans hcj
      have HU := Lib.hid (hu.below hbel (Nat.le_refl _))
      have HA : Away u y1 := hu.away hy1
      clear hu
      go_wp2_with (go_at_call 24; refine (hadd_any y1 _ _ _ _ hH HU.out HA (by have := HX.out 0x36; rw [List.length_append]; omega)).mono ?_; rintro e w2 ⟨rfl, hH2, hg2⟩)
      rw [List.append_assoc, ← catTo_succ L j hlt] at hH2
      have hbel2 : Below w.heap.size w w2 := hbel.grown hg2 hbel.size (by intro k hk; cases hk; exact hy1)
      clear hH hbel hcr HU HA hg2
      go_wp2
      go_roundw
      case rel => exact ⟨j + 1, by omega, by go_num, hH2, hbel2⟩
      case measure => simp [intOf]; omega
    · obtain rfl : j = L.length := by omega
      rw [catTo_all L L.length (Nat.le_refl _)] at hH
      have hKr : KeyAt wr y key := HK.out.below hbel (Nat.le_refl _)
      go_wp2_with (first
        | (go_at_call 23; refine (hB5c _ hKr).mono ?_; rintro e w3 ⟨y2, rfl, hy2, hH2, hb3⟩
           have hb03 : Below w.heap.size w w3 := hbel.trans (hb3.mono hbel.size)
           have hH3 := hH.below hb3 (Nat.le_refl _)
           have hy02 := Nat.le_trans hbel.size hy2)
        | (go_at_call 25; refine (hsumO_any y1 _ _ hH3 (by have := HX.out 0x36; rw [List.length_append]; omega)).mono ?_; rintro e w4 ⟨v4, rfl, hO4, hb4⟩
           have hb04 : Below w.heap.size w w4 := hb03.trans (hb4.mono hb03.size)
           have hH4 := hH2.below hb4 (Nat.le_refl _)
           have hA4 : Away v4 y2 := hO4.away hH2.lt
           have hB4 := hO4.bs
           clear hH3 hH2 hO4)
        | (go_at_call 24; refine (hadd_any y2 _ _ _ _ hH4 hB4 hA4 (by have := HX.out 0x5c; rw [sum256_length]; omega)).mono ?_; rintro e w5 ⟨rfl, hH5, hg5⟩
           have hb05 : Below w.heap.size w w5 := hb04.grown hg5 hb04.size (by intro k hk; cases hk; exact hy02))
        | fail)
      refine (hsumO_any y2 _ _ hH5 (by have := HX.out 0x5c; rw [List.length_append, sum256_length]; omega)).mono ?_
      rintro e w6 ⟨v6, rfl, hB6, hb6⟩
      replace hB6 := hB6.lower hb05.size
      go_wp2
      go_ret
      exact ⟨_, rfl, hB6, hb05.trans (hb6.mono hb05.size)⟩

set_option maxHeartbeats 400000 in
theorem kmacNil_any (v : Value) (w : World) :
    Calls Try.prog 11 #[.pointer none, v] w fun e w' => e = .returned (.slice none 0 0) ∧ w' = w := by
  go_enter Try.func11, Try.ntmps11
  go_wp2
  go_ret
  exact ⟨rfl, rfl⟩

set_option maxHeartbeats 800000 in
theorem mac_any (vk v : Value) (key : List UInt8) (L : List (List UInt8)) (w : World) (hk : Bs w vk key) (hkl : key.length < 2 ^ 30) (hv : Bss w v L) (hlen : L.flatten.length < 2 ^ 58) :
    Calls Try.prog 12 #[vk, v] w fun e w' => ∃ v', e = .returned v' ∧ Bs w' v' (hmac key L.flatten) ∧ Below w.heap.size w w' := by
  have HV := Lib.hid hv
  have HK := Lib.hid hk
  have HL := Lib.hid hlen
  have HKL := Lib.hid hkl
  clear hv hk hlen hkl
  go_enter Try.func12, Try.ntmps12
  go_wp2_with (first
    | (go_at_call 10; refine (newKey_any _ key _ HK.out HKL.out).mono ?_; rintro e w1 ⟨y1, rfl, hy1, hK1, hb1⟩
       have HV1 := Lib.hid (HV.out.below hb1 (Nat.le_refl _)))
    | (go_at_call 11; refine (kmac_any y1 key _ L _ hK1 HV1.out HL.out).mono ?_; rintro e w2 ⟨v2, rfl, hO2, hb2⟩
       have hB2 := hO2.bs
       have hb02 := hb1.trans (hb2.mono hb1.size)))
  go_ret
  exact ⟨_, rfl, hB2, hb02⟩

set_option maxHeartbeats 800000 in
theorem extract_any (vk v : Value) (key l : List UInt8) (w : World) (hk : Bs w vk key) (hkl : key.length < 2 ^ 30) (hv : Bs w v l) (hlen : l.length < 2 ^ 30) :
    Calls Try.prog 14 #[vk, v] w fun e w' => ∃ v', e = .returned v' ∧ Bs w' v' (hmac key l) ∧ Below w.heap.size w w' := by
  obtain ⟨a, n, cap, rfl, hn, hc1, hc2, hB0⟩ := hv.shape
  have hbR : Below w.heap.size w (w.alloc (.cells #[.slice a n cap] 22)) := (Below.refl _ _).alloc (Nat.le_refl _) _
  have HR := Lib.hid (Bss.one hB0 rfl)
  have HK := Lib.hid (hk.below hbR (Nat.le_refl _))
  have HL : Hid (([l] : List (List UInt8)).flatten.length < 2 ^ 58) := Lib.hid (by simp only [List.flatten_cons, List.flatten_nil, List.append_nil]; omega)
  have HKL := Lib.hid hkl
  have hfl : ([l] : List (List UInt8)).flatten = l := by simp only [List.flatten_cons, List.flatten_nil, List.append_nil]
  have HFL := Lib.hid hfl
  clear hv hk hlen hkl hB0 hn hfl
  go_enter Try.func14, Try.ntmps14
  go_wp2_with (first
    | (go_at_call 12; refine (mac_any _ _ key [l] _ HK.out HKL.out HR.out HL.out).mono ?_; rintro e w2 ⟨v2, rfl, hB2, hb2⟩
       have hb02 := hbR.trans (hb2.mono hbR.size)
       rw [HFL.out] at hB2))
  go_ret
  exact ⟨_, rfl, hB2, hb02⟩
end Go.Proofs.Ytladojcbbhphfaa
