/- Texts joined: what they are for stands ahead of each. -/
import Derived.Test.YtflblaccfiigfabDoorMM1
import Derived.BigRegion
import Derived.StillTailTactics
import Derived.Deep.QuietTactic
set_option linter.unusedSimpArgs false
set_option linter.unusedVariables false

/- The program's sponge: what lays a byte, the turn, what is taken in, the closing, what is given out. -/
set_option linter.unusedSimpArgs false
set_option linter.unusedVariables false
namespace Go.Proofs.YtflblaccfiigfabDoor
open Go.RowKit Go.Deep

/-- A sponge in memory: its lanes, its rate, its place. -/
def spF (s : Nat → BitVec 64) (r i : Nat) : Nat → Value := fun k => if k < 25 then .int .u64 ((s k).toNat : Int) else if k = 25 then .int .i64 (r : Int) else .int .i64 (i : Int)
theorem spF_lane (s : Nat → BitVec 64) (r i k : Nat) (h : k < 25) : spF s r i k = .int .u64 ((s k).toNat : Int) := by unfold spF; rw [if_pos h]
theorem spF_rate (s : Nat → BitVec 64) (r i : Nat) : spF s r i 25 = .int .i64 (r : Int) := rfl
theorem spF_at (s : Nat → BitVec 64) (r i : Nat) : spF s r i 26 = .int .i64 (i : Int) := rfl
theorem spF_set (s : Nat → BitVec 64) (r i j k : Nat) (hk : k < 27) : (if k = 26 then (.int .i64 (j : Int) : Value) else spF s r i k) = spF s r j k := by
  unfold spF
  by_cases e : k = 26
  · subst e; rfl
  · rw [if_neg e]
    by_cases e1 : k < 25
    · rw [if_pos e1, if_pos e1]
    · rw [if_neg e1, if_neg e1, if_pos (by omega), if_pos (by omega)]
theorem byte_val (x : Nat) (hx : x < 256) (k : Nat) : IntKind.u64.wrap ((x : Int) * 2 ^ k) = ((BitVec.ofNat 64 x <<< k).toNat : Int) := by
  rw [← shl64, ofNat64 x (by omega)]
  rfl

set_option maxHeartbeats 800000 in
theorem play_any (y : Nat) (t : TypeId) (s : Nat → BitVec 64) (r p i x : Nat) (w : World) (hrow : w.rowIs y t 27 (spF s r p)) (hi : i < 200) (hx : x < 256) :
    Calls Tryd.prog 57 #[.pointer (some ⟨y, 0, none⟩), .int .i64 (i : Int), .int .u8 (x : Int)] w fun e w' => e = .returned (.tuple #[]) ∧ w'.rowIs y t 27 (spF (layB s i x) r p) ∧ w.grownBy w' (some y) := by
  have c0 := hrow.cell (i := i / 8) (by omega)
  rw [spF_lane _ _ _ _ (by omega)] at c0
  have hfr := hrow.frozen (i / 8)
  have b0 : (0 : Int) ≤ (i : Int) := by omega
  have b1 : ((i / 8 : Nat) : Int) < 25 := by omega
  have b2 : (i : Int) < 200 := by omega
  have b3 : (x : Int) ≤ 255 := by omega
  go_enter Tryd.func57, Tryd.ntmps57
  go_wp2
  go_region
  go_wp2
  go_end0
  refine ⟨rfl, ((hrow.set (i / 8) _).drew).congr fun k hk => ?_, gb_drew (gb_setb (grownBy_refl _ _) _) 1⟩
  show (if k = i / 8 then _ else _) = _
  by_cases e : k = i / 8
  · rw [if_pos e, e, spF_lane _ _ _ _ (by omega)]
    unfold layB
    rw [if_pos rfl]
    refine congrArg (Value.int .u64) ?_
    rw [Nat.mul_comm 8 (i % 8), byte_val x hx, xor64]
  · rw [if_neg e]
    unfold spF layB
    by_cases e1 : k < 25
    · rw [if_pos e1, if_pos e1, if_neg e]
    · rw [if_neg e1, if_neg e1]

/-- A struct of a known row is loaded, stored, as arrays are. -/
theorem arrSponge : IsArr Tryd.prog 75 27 := ⟨by kernel_rfl, by kernel_rfl⟩
theorem spF_lanes (s : Nat → BitVec 64) (r i : Nat) : arrOf 25 (fun k => spF s r i (0 + k)) = arrOf 25 (l64 s) := arrOf_congr fun k hk => by rw [Nat.zero_add, spF_lane _ _ _ _ hk]; rfl
theorem spF_put (s s' : Nat → BitVec 64) (r i k : Nat) (_hk : k < 27) : putN (spF s r i) 0 25 (l64 s') k = spF s' r i k := by
  unfold putN spF
  by_cases e : k < 25
  · rw [if_pos ⟨by omega, by omega⟩, if_pos e]; rfl
  · rw [if_neg (by omega), if_neg e, if_neg e]

set_option maxHeartbeats 800000 in
theorem pturn_any (y : Nat) (t : TypeId) (s : Nat → BitVec 64) (r p : Nat) (w : World) (hL : Laid3 w) (hrow : w.rowIs y t 27 (spF s r p)) :
    Calls Tryd.prog 58 #[.pointer (some ⟨y, 0, none⟩)] w fun e w' => e = .returned (.tuple #[]) ∧ w'.rowIs y t 27 (spF (keccak s) r 0) ∧ w.grownBy w' (some y) := by
  have hyl := hrow.lt
  go_enter Tryd.func58, Tryd.ntmps58
  go_wp2_with (first
    | (refine wpList_load_arr rfl 73 (.tmp 5) rfl 25 arr25 hrow rfl (by omega) ?_; rw [spF_lanes])
    | (go_at_call 62; refine (permute_any _ _ hL).mono ?_; rintro e w2 ⟨rfl, hb2⟩
       have hrow2 := hrow.of_block (hb2.block _ hyl)
       clear hrow hL)
    | (refine wpList_store_arr rfl 73 (.tmp 9) (.tmp 7) rfl 25 arr25 hrow2 rfl rfl (by omega) (fun _ _ => rfl) ?_; intro w3 hr3 hg3 hs3
       replace hr3 := hr3.congr (fun k hk => spF_put s (keccak s) r p k hk)
       have hg := grownBy_trans (gb_new (grownBy_refl w (some y)) hb2) hg3
       have hcell := hr3.cell (i := 26) (by omega)
       have hfr := hr3.frozen 26
       clear hb2 hrow2 hg3 hs3))
  go_end0
  exact ⟨rfl, (hr3.set 26 _).congr fun k hk => spF_set _ _ _ 0 k hk, gb_setb hg _⟩

theorem takeS_snoc (r : Nat) (p : (Nat → BitVec 64) × Nat) (l : List UInt8) (j : Nat) (h : j < l.length) :
    takeS r p (l.take (j + 1)) = if (takeS r p (l.take j)).2 + 1 = r then (keccak (layB (takeS r p (l.take j)).1 (takeS r p (l.take j)).2 (l[j]).toNat), 0) else (layB (takeS r p (l.take j)).1 (takeS r p (l.take j)).2 (l[j]).toNat, (takeS r p (l.take j)).2 + 1) := by
  rw [List.take_succ_eq_append_getElem h, takeS_append]
  rfl
theorem play_cell (y : Nat) (t : TypeId) (s : Nat → BitVec 64) (r p : Nat) (i x : Int) (w : World) (hrow : w.rowIs y t 27 (spF s r p)) (hi0 : 0 ≤ i) (hi : i < 200) (hx0 : 0 ≤ x) (hx : x < 256) :
    Calls Tryd.prog 57 #[.pointer (some ⟨y, 0, none⟩), .int .i64 i, .int .u8 x] w fun e w' => e = .returned (.tuple #[]) ∧ w'.rowIs y t 27 (spF (layB s i.toNat x.toNat) r p) ∧ w.grownBy w' (some y) := by
  have h := play_any y t s r p i.toNat x.toNat w hrow (by omega) (by omega)
  rwa [show (i.toNat : Int) = i by omega, show (x.toNat : Int) = x by omega] at h

set_option maxHeartbeats 1600000 in
theorem ptake_any (y : Nat) (t : TypeId) (s : Nat → BitVec 64) (r p : Nat) (vb : Value) (l : List UInt8) (w : World) (hL : Laid3 w) (hrow : w.rowIs y t 27 (spF s r p)) (hB : Bs w vb l) (hA : Away vb y) (hy : 3 ≤ y) (hp : p < r) (hr : r < 200) :
    Calls Tryd.prog 56 #[.pointer (some ⟨y, 0, none⟩), vb] w fun e w' => e = .returned (.tuple #[]) ∧ w'.rowIs y t 27 (spF (takeS r (s, p) l).1 r (takeS r (s, p) l).2) ∧ w.grownBy w' (some y) := by
  obtain ⟨a, n, cap, rfl, hn, hc1, hc2, hB0⟩ := hB.shape
  have HB := Lib.hid hB0
  have HN := Lib.hid hn
  have hT := Lib.hid hL
  clear hB hB0 hn hL
  go_enter Tryd.func56, Tryd.ntmps56
  go_wp2
  go_loopw [8] (fun i wr => ∃ j : Nat, j ≤ n ∧ i = .int .i64 j ∧ wr.rowIs y t 27 (spF (takeS r (s, p) (l.take j)).1 r (takeS r (s, p) (l.take j)).2) ∧ w.grownBy wr (some y)) (fun i _ => n - (intOf i).toNat)
  case atStart => exact ⟨0, Nat.zero_le _, rfl, hrow, grownBy_refl _ _⟩
  case round =>
    clear hrow
    obtain ⟨j, hj, rfl, hrw, hg⟩ := hrel
    by_cases hlt : j < n
    · have hl : j < l.length := by rw [HN.out]; exact hlt
      have hsn := takeS_snoc r (s, p) l j hl
      have hp2 := takeS_lt r (by omega) (l.take j) (s, p) hp
      generalize takeS r (s, p) (l.take j) = q at *
      obtain ⟨s2, p2⟩ := q
      simp only at hsn hp2 hrw
      have HS := Lib.hid hsn
      clear hsn
      obtain ⟨b, off, cap', he, _, _, hbl, hc⟩ := HB.out.open_n HN.out (by omega)
      cases he
      have hBr : Bs wr _ l := gb_bs HB.out hg hA
      obtain ⟨b', off', cap', he, _, _, hbl, hc⟩ := hBr.open_n HN.out (by omega)
      cases he
      have hcj := hc j hl
      clear hc hBr
      have hat := hrw.cell (i := 26) (by omega)
      rw [spF_at] at hat
      have hx := UInt8.toNat_lt l[j]
      generalize l[j] = x at *
      clear hbl
      by_cases e : p2 + 1 = r
      · have HS2 : Hid (takeS r (s, p) (l.take (j + 1)) = (keccak (layB s2 p2 x.toNat), 0)) := by have := HS.out; rw [if_pos e] at this; exact this
        have hte : (((p2 : Int) + 1) == (r : Int)) = true := by simp; omega
        clear HS
        go_wp2_with (first
          | (go_at_call 57; refine (play_cell y t s2 r p2 _ _ _ hrw (by omega) (by omega) (by omega) (by omega)).mono ?_; rintro e w3 ⟨rfl, hr3, hg3⟩
             replace hg := grownBy_trans hg hg3
             replace hat := hr3.cell (i := 26) (by omega)
             have hfr := hr3.frozen 26
             have hrt := hr3.cell (i := 25) (by omega)
             rw [spF_at] at hat
             rw [spF_rate] at hrt
             clear hg3 hcj hrw))
        go_quiet (fail)
        have hr4 : ((w3.setCell ⟨y, 26, none⟩ (.int .i64 ((p2 : Int) + 1))).drewN nq).rowIs y t 27 (spF (layB s2 p2 x.toNat) r (p2 + 1)) := (hr3.set 26 _).congr fun k hk => by
          have := spF_set (layB s2 p2 x.toNat) r p2 (p2 + 1) k hk
          simpa using this
        replace hg := gb_drew (gb_setb (i := 26) hg (.int .i64 ((p2 : Int) + 1))) nq
        have hT4 := hT.out.grown hg hy
        go_wp2_with (first
          | (go_at_call 58; refine (pturn_any y t _ r _ _ hT4 hr4).mono ?_; rintro e w5 ⟨rfl, hr5, hg5⟩))
        go_roundw
        case rel => exact ⟨j + 1, by omega, by go_num, by rw [HS2.out]; exact hr5, grownBy_trans hg hg5⟩
        case measure => simp [intOf]; omega
      · have HS2 : Hid (takeS r (s, p) (l.take (j + 1)) = (layB s2 p2 x.toNat, p2 + 1)) := by have := HS.out; rw [if_neg e] at this; exact this
        have hte : (((p2 : Int) + 1) == (r : Int)) = false := by simp; omega
        clear HS
        go_wp2_with (first
          | (go_at_call 57; refine (play_cell y t s2 r p2 _ _ _ hrw (by omega) (by omega) (by omega) (by omega)).mono ?_; rintro e w3 ⟨rfl, hr3, hg3⟩
             replace hg := grownBy_trans hg hg3
             replace hat := hr3.cell (i := 26) (by omega)
             have hfr := hr3.frozen 26
             have hrt := hr3.cell (i := 25) (by omega)
             rw [spF_at] at hat
             rw [spF_rate] at hrt
             clear hg3 hcj hrw))
        go_quiet (fail)
        have hr4 : ((w3.setCell ⟨y, 26, none⟩ (.int .i64 ((p2 : Int) + 1))).drewN nq).rowIs y t 27 (spF (layB s2 p2 x.toNat) r (p2 + 1)) := (hr3.set 26 _).congr fun k hk => by
          have := spF_set (layB s2 p2 x.toNat) r p2 (p2 + 1) k hk
          simpa using this
        replace hg := gb_drew (gb_setb (i := 26) hg (.int .i64 ((p2 : Int) + 1))) nq
        go_wp2
        go_roundw
        case rel => exact ⟨j + 1, by omega, by go_num, by rw [HS2.out]; exact hr4, hg⟩
        case measure => simp [intOf]; omega
    · obtain rfl : j = n := by omega
      have hall : l.take j = l := List.take_of_length_le (by rw [HN.out]; exact Nat.le_refl _)
      rw [hall] at hrw
      go_wp2
      go_end0
      exact ⟨rfl, hrw, hg⟩
end Go.Proofs.YtflblaccfiigfabDoor

/- Rows one behind the other: flat.Cat, missivealike.Cat. -/
set_option linter.unusedSimpArgs false
set_option linter.unusedVariables false
namespace Go.Proofs.YtflblaccfiigfabDoor
open Go.RowKit Go.Deep

/-- The first j rows, one behind the other. -/
def catTo (L : List (List UInt8)) (j : Nat) : List UInt8 := (L.take j).flatten
theorem catTo_succ (L : List (List UInt8)) (j : Nat) (h : j < L.length) : catTo L (j + 1) = catTo L j ++ L[j] := by
  unfold catTo
  rw [List.take_succ_eq_append_getElem h, List.flatten_append]
  simp
theorem catTo_all (L : List (List UInt8)) (j : Nat) (h : L.length ≤ j) : catTo L j = L.flatten := by
  unfold catTo; rw [List.take_of_length_le h]
theorem catTo_le (L : List (List UInt8)) (j : Nat) : (catTo L j).length ≤ L.flatten.length := by
  have : L.flatten = catTo L j ++ (L.drop j).flatten := by unfold catTo; rw [← List.flatten_append, List.take_append_drop]
  rw [this, List.length_append]; omega

set_option maxHeartbeats 800000 in
theorem cat_any (v : Value) (L : List (List UInt8)) (w : World) (hv : Bss w v L) (hlen : L.flatten.length ≤ 2147483647) :
    Calls Tryd.prog 9 #[v] w fun e w' => ∃ v', e = .returned v' ∧ Owns w' w.heap.size v' L.flatten ∧ Below w.heap.size w w' := by
  have HV := Lib.hid hv
  obtain ⟨a, cap, rfl, h1, h2, h3, h4⟩ := hv
  clear h3 h4
  unfold maxLen at h2
  obtain ⟨i0, hi, hz0, hz1, hz2⟩ := info_parts Try.info5
  go_enter Tryd.func9, Tryd.ntmps9
  go_wp2
  go_loop [3, 11] (fun s i => ∃ j : Nat, j ≤ L.length ∧ i = .int .i64 j ∧ s = .int .i64 ((catTo L j).length : Nat)) (fun _ i => L.length - (intOf i).toNat)
  case atStart => exact ⟨0, Nat.zero_le _, rfl, rfl⟩
  case round =>
    obtain ⟨j, hj, rfl, rfl⟩ := hrel
    by_cases hlt : j < L.length
    · have hle := catTo_le L (j + 1)
      have hsucc := congrArg List.length (catTo_succ L j hlt)
      rw [List.length_append] at hsucc
      have hle2 : (catTo L j).length + L[j].length ≤ 2147483647 := by omega
      have HS := Lib.hid hsucc
      clear hsucc hle
      obtain ⟨b, off, cap', he, _, _, _, hc⟩ := HV.out.open_cons (by omega)
      cases he
      obtain ⟨u, hcj, hu⟩ := hc j hlt
      clear hc
      obtain ⟨au, cu, rfl, _, _, _, _⟩ := hu
      go_wp2
      go_round
      case rel => exact ⟨j + 1, by omega, by go_num, by rw [HS.out]; go_num⟩
      case measure => simp [intOf]; omega
    · obtain rfl : j = L.length := by omega
      have hall := catTo_all L L.length (Nat.le_refl _)
      rw [hall]
      clear hall
      generalize hn : L.flatten.length = n at *
      have HN := Lib.hid hn
      clear hn
      go_wp2_with (refine wpList_make_own _ rfl _ _ 22 rfl w.heap.size 5 i0 (.int .u8 0) 1 Tryd.underlying22 hi hz0 hz1 .i64 .i64 _ n rfl rfl rfl (by rw [hz2]; omega) (by unfold maxLen; omega) (Nat.le_refl _) ?_; intro w1 hown1 hgrow1)
      have hO : Owns w1 w.heap.size (.slice (some ⟨w.heap.size, 0, none⟩) 0 n) [] := hown1
      have hB1 : Below w.heap.size w w1 := (Below.refl _ _).grown hgrow1 (Nat.le_refl _) (fun k hk => by cases hk)
      clear hown1 hgrow1
      go_loopw [6, 24] (fun v i wr => ∃ j : Nat, j ≤ L.length ∧ i = .int .i64 j ∧ Owns wr w.heap.size v (catTo L j) ∧ Below w.heap.size w wr) (fun _ i _ => L.length - (intOf i).toNat)
      case atStart => exact ⟨0, Nat.zero_le _, rfl, hO, hB1⟩
      case round =>
        obtain ⟨j, hj, rfl, hown, hbel⟩ := hrel
        clear hO hB1
        by_cases hlt : j < L.length
        · have hsum : (catTo L j).length + L[j].length ≤ n := by
            have := catTo_le L (j + 1)
            rw [catTo_succ L j hlt, List.length_append] at this
            have := HN.out
            omega
          obtain ⟨b, off, cap', he, _, _, hbl, hc⟩ := HV.out.open_cons (by omega)
          cases he
          obtain ⟨u, hcj, hu⟩ := hc j hlt
          clear hc
          have hcr : wr.cell? ⟨b, off + j, none⟩ = some u := (hbel.cell (by exact hbl)).trans hcj
          have hur : Bs wr u L[j] := hu.below hbel (Nat.le_refl _)
          have HU := Lib.hid hur
          obtain ⟨au, cu, rfl, _, _, _, _⟩ := hu
          clear hur
          go_wp2_with (refine wpList_app rfl _ _ rfl w.heap.size _ _ (catTo L j) L[j] hown HU.out rfl rfl (by omega) (by have := hbel.size; omega) ?_; intro v2 w2 hown2 hgrow2)
          have hown3 : Owns w2 w.heap.size v2 (catTo L (j + 1)) := by rw [catTo_succ L j hlt]; exact hown2
          have hbel3 : Below w.heap.size w w2 := hbel.grown hgrow2 hbel.size (Owns.block hown)
          clear hown2 hgrow2 hown hbel hcr HU hsum
          go_wp2
          go_roundw
          case rel => exact ⟨j + 1, by omega, by go_num, hown3, hbel3⟩
          case measure => simp [intOf]; omega
        · obtain rfl : j = L.length := by omega
          go_wp2
          go_ret
          exact ⟨_, rfl, by rw [← catTo_all L L.length (Nat.le_refl _)]; exact hown, hbel⟩
end Go.Proofs.YtflblaccfiigfabDoor

/- The program's sponge: closed, give. -/
set_option linter.unusedSimpArgs false
set_option linter.unusedVariables false
namespace Go.Proofs.YtflblaccfiigfabDoor
open Go.RowKit Go.Deep

theorem zeroSponge : (Tryd.prog.info? 75).map (fun i => i.zero) = some (some (.agg (arrOf 27 (spF zeroS 0 0)))) := by kernel_rfl
theorem spF_one (s : Nat → BitVec 64) (r i n : Nat) : ∀ j, j < n → (spF s r i j).oneCell' = true := fun j _ => by unfold spF; split <;> (try split) <;> rfl

set_option maxHeartbeats 1600000 in
theorem closed_any (r e : Nat) (v : Value) (L : List (List UInt8)) (w : World) (hL : Laid3 w) (hB : Bss w v L) (hr0 : 0 < r) (hr : r < 200) (he : e < 256) :
    Calls Tryd.prog 40 #[.int .i64 (r : Int), .int .u8 (e : Int), v] w fun e' w' => e' = .returned (.agg (arrOf 27 (spF (closedS r e L.flatten) r r))) ∧ Below w.heap.size w w' := by
  have HV := Lib.hid hB
  obtain ⟨a, cap, rfl, h1, h2, h3, h4⟩ := hB
  clear h3 h4
  unfold maxLen at h2
  have hT := Lib.hid hL
  have hS := hL.size
  clear hL
  go_enter Tryd.func40, Tryd.ntmps40
  have hR := (rowIs_arr w 27 (spF zeroS 0 0) 75).alloc (.cells (arrOf 27 (spF zeroS 0 0)) 75)
  have hY := rowIs_arr (w.alloc (.cells (arrOf 27 (spF zeroS 0 0)) 75)) 27 (spF zeroS 0 0) 75
  have hb : Below w.heap.size w ((w.alloc (.cells (arrOf 27 (spF zeroS 0 0)) 75)).alloc (.cells (arrOf 27 (spF zeroS 0 0)) 75)) :=
    ((Below.refl _ _).alloc (Nat.le_refl _) _).alloc (by simp only [World.size_alloc]; omega) _
  simp only [World.size_alloc] at hR hY
  go_wp2_with (first
    | refine wpList_alloc_arr rfl 75 rfl (arrOf 27 (spF zeroS 0 0)) zeroSponge ?_
    | refine wpList_build_arr rfl 75 _ rfl (arrOf 27 (spF zeroS r 0)) (by kernel_rfl) ?_
    | (refine wpList_store_arr' rfl 75 (.tmp 7) (.tmp 11) rfl 27 arrSponge hY rfl (by first | rfl | simp only [World.size_alloc]) rfl (by omega) (spF_one _ _ _ _) ?_; intro w2 hY2 hg2 hs2
       replace hY2 := hY2.congr (g := spF zeroS r 0) (fun i hi => by unfold putN; rw [if_pos (by omega), Nat.sub_zero])
       have hR2 := gb_rowIs hR hg2 (by omega)
       have hb2 := gb_below hb hg2 (by simp only [World.size_alloc]; omega) (by omega)
       clear hR hY hb hg2 hs2))
  have hne : w.heap.size ≠ w.heap.size + 1 := by omega
  have hy3 : 3 ≤ w.heap.size + 1 := by omega
  have hyw : w.heap.size ≤ w.heap.size + 1 := by omega
  generalize hye : w.heap.size + 1 = y at *
  generalize hqe : w.heap.size = q at *
  have HQ := Lib.hid hqe
  clear hye hqe
  go_loopw [14] (fun i wr => ∃ j : Nat, j ≤ L.length ∧ i = .int .i64 j ∧ wr.rowIs y 75 27 (spF (takeS r (zeroS, 0) (catTo L j)).1 r (takeS r (zeroS, 0) (catTo L j)).2) ∧ wr.rowIs q 75 27 (spF zeroS 0 0) ∧ Below q w wr) (fun i _ => L.length - (intOf i).toNat)
  case atStart => exact ⟨0, Nat.zero_le _, rfl, hY2, hR2, hb2⟩
  case round =>
    clear hY2 hR2 hb2
    obtain ⟨j, hj, rfl, hY, hR, hb⟩ := hrel
    have hlt0 := takeS_lt r hr0 (catTo L j) (zeroS, 0) hr0
    by_cases hlt : j < L.length
    · have hsu : takeS r (takeS r (zeroS, 0) (catTo L j)) L[j] = takeS r (zeroS, 0) (catTo L (j + 1)) := by rw [catTo_succ L j hlt, takeS_append]
      generalize takeS r (zeroS, 0) (catTo L j) = p at *
      obtain ⟨s2, p2⟩ := p
      simp only at hlt0 hY
      have HS := Lib.hid hsu
      clear hsu
      have hVr := HV.out.below hb (by rw [HQ.out]; exact Nat.le_refl _)
      obtain ⟨b, off, cap', he', _, _, _, hc⟩ := hVr.open_cons (by omega)
      cases he'
      obtain ⟨u, hcj, hu⟩ := hc j hlt
      clear hc hVr
      have hAw : Away u y := by
        obtain ⟨b, off, cap', he', _, _, _, hc⟩ := HV.out.open_cons (by omega)
        cases he'
        obtain ⟨u', hcj', hu'⟩ := hc j hlt
        have e1 : u = u' := by
          have h5 := (hb.cell (p := ⟨b, off + j, none⟩) (by rw [← HQ.out]; exact (show b < w.heap.size by assumption))).trans hcj'
          rw [hcj] at h5
          exact Option.some.inj h5
        subst e1
        exact hu'.away (by rw [HQ.out]; exact hyw)
      have HU := Lib.hid hu
      have hTr := hT.out.below hb hS
      clear hu
      obtain ⟨au, cu, rfl, _, _, _, _⟩ := HU.out
      go_wp2_with (go_at_call 56; refine (ptake_any y _ s2 r p2 _ L[j] _ hTr hY HU.out hAw hy3 hlt0 hr).mono ?_; rintro e' w3 ⟨rfl, hY3, hg3⟩)
      go_roundw
      case rel => exact ⟨j + 1, by omega, by go_num, by rw [HS.out] at hY3; exact hY3, gb_rowIs hR hg3 hne, gb_below hb hg3 (by have := hb.size; rw [HQ.out] at this; exact this) hyw⟩
      case measure => simp [intOf]; omega
    · obtain rfl : j = L.length := by omega
      have hcl : closedS r e L.flatten = layB (layB (takeS r (zeroS, 0) (catTo L L.length)).1 (takeS r (zeroS, 0) (catTo L L.length)).2 e) (r - 1) 128 := by rw [catTo_all L _ (Nat.le_refl _)]; rfl
      generalize takeS r (zeroS, 0) (catTo L L.length) = p at *
      obtain ⟨s2, p2⟩ := p
      simp only at hlt0 hY hcl
      have HC := Lib.hid hcl
      clear hcl
      have hat := hY.cell (i := 26) (by omega)
      rw [spF_at] at hat
      have hbq : q ≤ wr.heap.size := by have := hb.size; rw [HQ.out] at this; exact this
      have b0 : (1 : Int) ≤ (r : Int) := by omega
      have b1 : (r : Int) < 200 := by omega
      go_wp2_with fail
      refine (play_any y _ s2 r p2 p2 e _ hY (by omega) he).mono ?_
      rintro e' w3 ⟨rfl, hY3, hg3⟩
      have hR3 := gb_rowIs hR hg3 hne
      have hb3 := gb_below hb hg3 hbq hyw
      have hq3 := Nat.le_trans hbq hg3.size
      clear hY hR hb hat hg3
      go_wp2_with fail
      refine (play_cell y _ _ r p2 _ 128 _ hY3 (by omega) (by omega) (by omega) (by omega)).mono ?_
      rintro e' w4 ⟨rfl, hY4, hg4⟩
      have hR4 := gb_rowIs hR3 hg4 hne
      have hb4 := gb_below hb3 hg4 hq3 hyw
      have hq4 := Nat.le_trans hq3 hg4.size
      have e1 : ((r : Int) - 1).toNat = r - 1 := by omega
      have e2 : (128 : Int).toNat = 128 := rfl
      rw [e1, e2, ← HC.out] at hY4
      have hat := hY4.cell (i := 26) (by omega)
      have hfr := hY4.frozen 26
      rw [spF_at] at hat
      have hY5 := (hY4.set 26 (.int .i64 (r : Int))).congr (fun k hk => spF_set _ _ _ r k hk)
      have hR5 := hR4.setOther (a := ⟨y, 26, none⟩) hne (.int .i64 (r : Int))
      have hb5 := hb4.setCell (p := ⟨y, 26, none⟩) hyw (.int .i64 (r : Int))
      clear hY3 hR3 hb3 hY4 hg4 hR4 hb4 e1 e2
      go_wp2_with (first
        | refine wpList_load_arr rfl 75 (.tmp 7) rfl 27 arrSponge hY5 rfl (by omega) ?_
        | (refine wpList_store_arr rfl 75 (.tmp 6) (.tmp 30) rfl 27 arrSponge hR5 rfl rfl (by omega) (fun j _ => spF_one _ _ _ 27 (0 + j) (by omega)) ?_; intro w6 hR6 hg6 hs6))
      refine ret_cell_arr rfl arrSponge hR6 rfl (by omega) rfl ⟨?_, ?_⟩
      · refine congrArg (fun x => Ending.returned (.agg x)) (arrOf_congr fun i hi => ?_)
        unfold putN
        rw [if_pos (by omega)]
        show spF (closedS r e L.flatten) r r (0 + (0 + i - 0)) = _
        rw [Nat.zero_add, Nat.zero_add, Nat.sub_zero]
      · rw [HQ.out]
        exact gb_below hb5 hg6 (by have := hb5.size; rw [HQ.out] at this; exact this) (Nat.le_refl _)

theorem ob_lt (r : Nat) (s : Nat → BitVec 64) (p : Nat) : ob r s p < 256 := by
  unfold ob byteS
  split <;> omega
def pieceL (r : Nat) (s : Nat → BitVec 64) (p n : Nat) : List UInt8 := (List.range n).map fun i => UInt8.ofNat (ob r s (p + i))
theorem pieceL_length (r : Nat) (s : Nat → BitVec 64) (p n : Nat) : (pieceL r s p n).length = n := by simp [pieceL]
theorem pieceL_zero (r : Nat) (s : Nat → BitVec 64) (n : Nat) : pieceL r s 0 n = outL r s n := by unfold pieceL outL; simp only [Nat.zero_add]
theorem laid_piece {w : World} {b n : Nat} {r : Nat} {s : Nat → BitVec 64} {p : Nat} (h : w.rowIs b 5 n (laidTo (fun i => ob r s (p + i)) n)) (hn : n ≤ maxLen) : Bs w (.slice (some ⟨b, 0, none⟩) n n) (pieceL r s p n) := by
  have hB : Bs w (.slice (some ⟨b, 0, none⟩) (pieceL r s p n).length n) (pieceL r s p n) := by
    refine Bs.of_rowIs h _ (by rw [pieceL_length]; exact Nat.le_refl _) hn fun i hi => ?_
    rw [pieceL_length] at hi
    unfold laidTo
    rw [if_pos hi]
    have := ob_lt r s (p + i)
    simp [pieceL]
    omega
  rwa [pieceL_length] at hB
set_option maxHeartbeats 1600000 in
theorem give_any (y : Nat) (t : TypeId) (s0 : Nat → BitVec 64) (r p n : Nat) (w : World) (hL : Laid3 w) (hrow : w.rowIs y t 27 (spF (gv r s0 p).1 r (gv r s0 p).2)) (hy : 3 ≤ y) (hr0 : 0 < r) (hr : r < 200) (hn : n ≤ 65536) :
    Calls Tryd.prog 41 #[.pointer (some ⟨y, 0, none⟩), .int .i64 (n : Int)] w fun e w' => ∃ v, e = .returned v ∧ Bs w' v (pieceL r s0 p n) ∧ w'.rowIs y t 27 (spF (gv r s0 (p + n)).1 r (gv r s0 (p + n)).2) ∧ w.grownBy w' (some y) := by
  have hmk := fun (w : World) => run_make_row' (P := Tryd.prog) 22 5 (.int .u8 0) 1 Tryd.underlying22 Try.info5 rfl .i64 .i64 n (by omega) (by omega) w
  have hmade := World.rowIs_made w (.int .u8 0) n 5
  have hyl := hrow.lt
  have hT := Lib.hid hL
  clear hL
  go_enter Tryd.func41, Tryd.ntmps41
  go_wp2
  have hrow1 := hrow.alloc (.cells (madeCells #[.int .u8 0] n) 5)
  have hg1 := gb_alloc (grownBy_refl w (some y)) (.cells (madeCells #[.int .u8 0] n) 5)
  have hoy : w.heap.size ≠ y := by omega
  have how : w.heap.size ≤ w.heap.size := Nat.le_refl _
  generalize hoe : w.heap.size = o at *
  have HO := Lib.hid hoe
  clear hoe hmk hrow
  go_loopw [11] (fun i wr => ∃ j : Nat, j ≤ n ∧ i = .int .i64 j ∧ wr.rowIs o 5 n (laidTo (fun i => ob r s0 (p + i)) j) ∧ wr.rowIs y t 27 (spF (gv r s0 (p + j)).1 r (gv r s0 (p + j)).2) ∧ w.grownBy wr (some y)) (fun i _ => n - (intOf i).toNat)
  case atStart => exact ⟨0, Nat.zero_le _, rfl, hmade.congr fun i _ => rfl, hrow1, hg1⟩
  case round =>
    clear hmade hrow1 hg1
    obtain ⟨j, hj, rfl, ho, hY, hg⟩ := hrel
    by_cases hlt : j < n
    · have hT1 := hT.out.grown hg hy
      have hps := gv_pos r s0 hr0 (p + j)
      have hstep : gv r s0 (p + (j + 1)) = if (gv r s0 (p + j)).2 = r then (keccak (gv r s0 (p + j)).1, 1) else ((gv r s0 (p + j)).1, (gv r s0 (p + j)).2 + 1) := rfl
      have hob : ob r s0 (p + j) = if (gv r s0 (p + j)).2 = r then byteS (keccak (gv r s0 (p + j)).1) 0 else byteS (gv r s0 (p + j)).1 (gv r s0 (p + j)).2 := rfl
      generalize gv r s0 (p + j) = q at *
      obtain ⟨s2, p2⟩ := q
      simp only at hstep hob hY hps
      have hat := hY.cell (i := 26) (by omega)
      have hrt := hY.cell (i := 25) (by omega)
      rw [spF_at] at hat
      rw [spF_rate] at hrt
      by_cases e : p2 = r
      · rw [if_pos e] at hstep hob
        have HS := Lib.hid hstep
        have HOB := Lib.hid hob
        clear hstep hob
        have hte : ((p2 : Int) == (r : Int)) = true := by simp; omega
        go_wp2
        go_quiet (fail)
        replace hY : (wr.drewN nq).rowIs y t 27 (spF s2 r p2) := hY
        replace ho : (wr.drewN nq).rowIs o 5 n (laidTo (fun i => ob r s0 (p + i)) j) := ho
        replace hg := gb_drew hg nq
        replace hT1 : Laid3 (wr.drewN nq) := hT.out.grown hg hy
        clear hat hrt
        go_wp2_with (first
          | (go_at_call 58; refine (pturn_any y t _ r _ _ hT1 hY).mono ?_; rintro e w5 ⟨rfl, hY5, hg5⟩
             replace ho := gb_rowIs ho hg5 hoy
             replace hg := grownBy_trans hg hg5
             have hat := hY5.cell (i := 26) (by omega)
             have hl0 := hY5.cell (i := 0) (by omega)
             rw [spF_at] at hat
             rw [spF_lane _ _ _ _ (by omega)] at hl0
             have hfo := ho.frozen j
             have hco := ho.cell (i := j) hlt
             have hfy := hY5.frozen 26
             clear hg5 hY))
        go_region
        go_wp2
        go_roundw
        case rel =>
          refine ⟨j + 1, by omega, by go_num, ((laid_step ho ?_).drew).setOther hoy _, ?_, gb_setb (gb_drew (gb_set hg (by rw [HO.out]; exact how) _) 1) _⟩
          · rw [HOB.out]
            unfold byteS
            simp
          · rw [HS.out]
            exact (((hY5.setOther (Ne.symm hoy) _).drew).set 26 _).congr fun k hk => spF_set _ _ _ 1 k hk
        case measure => simp [intOf]; omega
      · rw [if_neg e] at hstep hob
        have HS := Lib.hid hstep
        have HOB := Lib.hid hob
        clear hstep hob
        have hte : ((p2 : Int) == (r : Int)) = false := by simp; omega
        have hpr : p2 < r := by omega
        have b0 : (0 : Int) ≤ (p2 : Int) := by omega
        have b1 : ((p2 / 8 : Nat) : Int) < 25 := by omega
        have b2 : (p2 : Int) < 200 := by omega
        go_wp2
        go_quiet (fail)
        replace hY : (wr.drewN nq).rowIs y t 27 (spF s2 r p2) := hY
        replace ho : (wr.drewN nq).rowIs o 5 n (laidTo (fun i => ob r s0 (p + i)) j) := ho
        replace hg := gb_drew hg nq
        have hl0 := hY.cell (i := p2 / 8) (by omega)
        rw [spF_lane _ _ _ _ (by omega)] at hl0
        have hfo := ho.frozen j
        have hco := ho.cell (i := j) hlt
        have hfy := hY.frozen 26
        clear hat hrt
        have hat := hY.cell (i := 26) (by omega)
        rw [spF_at] at hat
        generalize wr.drewN nq = w5 at *
        go_wp2
        go_region
        go_wp2
        go_roundw
        case rel =>
          refine ⟨j + 1, by omega, by go_num, ((laid_step ho ?_).drew).setOther hoy _, ?_, gb_setb (gb_drew (gb_set hg (by rw [HO.out]; exact how) _) 1) _⟩
          · rw [HOB.out]
            unfold byteS
            rw [Nat.mul_comm 8 (p2 % 8)]
            simp
          · rw [HS.out]
            exact (((hY.setOther (Ne.symm hoy) _).drew).set 26 _).congr fun k hk => spF_set _ _ _ (p2 + 1) k hk
        case measure => simp [intOf]; omega
    · obtain rfl : j = n := by omega
      have hB := laid_piece ho (by unfold maxLen; omega)
      go_wp2
      go_ret
      exact ⟨_, rfl, hB, hY, hg⟩
end Go.Proofs.YtflblaccfiigfabDoor

/- What the program answers: read, the sums, the sponges, the reader. -/
set_option linter.unusedSimpArgs false
set_option linter.unusedVariables false
namespace Go.Proofs.YtflblaccfiigfabDoor
open Go.RowKit Go.Deep

theorem give_lit (y : Nat) (t : TypeId) (s0 : Nat → BitVec 64) (r p : Nat) (n : Int) (w : World) (hL : Laid3 w) (hrow : w.rowIs y t 27 (spF (gv r s0 p).1 r (gv r s0 p).2)) (hy : 3 ≤ y) (hr0 : 0 < r) (hr : r < 200) (hn0 : 0 ≤ n) (hn : n ≤ 65536) :
    Calls Tryd.prog 41 #[.pointer (some ⟨y, 0, none⟩), .int .i64 n] w fun e w' => ∃ v, e = .returned v ∧ Bs w' v (pieceL r s0 p n.toNat) ∧ w'.rowIs y t 27 (spF (gv r s0 (p + n.toNat)).1 r (gv r s0 (p + n.toNat)).2) ∧ w.grownBy w' (some y) := by
  have h := give_any y t s0 r p n.toNat w hL hrow hy hr0 hr (by omega)
  rwa [show (n.toNat : Int) = n by omega] at h

set_option maxHeartbeats 1600000 in
theorem read_pos (r e : Nat) (n : Int) (v : Value) (L : List (List UInt8)) (w : World) (hL : Laid3 w) (hB : Bss w v L) (hr0 : 0 < r) (hr : r < 200) (he : e < 256) (hn : 1 ≤ n) (hn2 : n ≤ 9223372036854775807) :
    Calls Tryd.prog 22 #[.int .i64 n, .int .i64 (r : Int), .int .u8 (e : Int), v] w fun e' w' => ∃ v', e' = .returned v' ∧ Bs w' v' (spongeL r e L.flatten (min n 65536).toNat) ∧ Below w.heap.size w w' := by
  have HV := Lib.hid hB
  have HT := Lib.hid hL
  have hS := hL.size
  obtain ⟨a, cap, rfl, h1, h2, h3, h4⟩ := hB
  clear h3 h4 hL
  unfold maxLen at h2
  have hn1 : ¬ n < 1 := by omega
  go_enter Tryd.func22, Tryd.ntmps22
  go_wp2_with (first
    | (go_at_call 40; refine (closed_any r e _ L _ HT.out HV.out hr0 hr he).mono ?_; rintro e' w2 ⟨rfl, hb2⟩
       have hY := rowIs_arr w2 27 (spF zeroS 0 0) 75
       have hb3 := hb2.alloc hb2.size (.cells (arrOf 27 (spF zeroS 0 0)) 75)
       have hs2 := hb2.size)
    | refine wpList_alloc_arr rfl 75 rfl (arrOf 27 (spF zeroS 0 0)) zeroSponge ?_
    | (refine wpList_store_arr rfl 75 (.tmp 9) (.tmp 15) rfl 27 arrSponge hY rfl rfl (by omega) (spF_one _ _ _ _) ?_; intro w4 hY4 hg4 hs4
       replace hY4 := hY4.congr (g := spF (gv r (closedS r e L.flatten) 0).1 r (gv r (closedS r e L.flatten) 0).2) (fun i hi => by unfold putN; rw [if_pos (by omega), Nat.sub_zero]; rfl)
       replace hb3 := gb_below hb3 hg4 (by simp only [World.size_alloc]; omega) hs2
       have hT4 := HT.out.below hb3 hS
       have hs4' : 3 ≤ w2.heap.size := by omega
       clear hY hg4 hb2))
  all_goals
    refine (give_lit _ _ (closedS r e L.flatten) r 0 _ _ hT4 hY4 hs4' hr0 hr (by omega) (by omega)).mono ?_
    rintro e' w5 ⟨v', rfl, hB5, hY5, hg5⟩
    have hb5 := gb_below hb3 hg5 (by have := hb3.size; omega) hs2
    rw [pieceL_zero] at hB5
    clear hY5 hg5
    go_wp2
    go_ret
    refine ⟨_, rfl, ?_, hb5⟩
  · rw [show min n 65536 = 65536 by omega]; exact hB5
  · rw [show min n 65536 = n by omega]; exact hB5

set_option maxHeartbeats 800000 in
theorem read_any (r e : Nat) (n : Int) (v : Value) (L : List (List UInt8)) (w : World) (hL : Laid3 w) (hB : Bss w v L) (hr0 : 0 < r) (hr : r < 200) (he : e < 256) (hn2 : n ≤ 9223372036854775807) :
    Calls Tryd.prog 22 #[.int .i64 n, .int .i64 (r : Int), .int .u8 (e : Int), v] w fun e' w' => ∃ v', e' = .returned v' ∧ Bs w' v' (spongeL r e L.flatten (min n 65536).toNat) ∧ Below w.heap.size w w' := by
  by_cases hn : 1 ≤ n
  · exact read_pos r e n v L w hL hB hr0 hr he hn hn2
  · have hz : (min n 65536).toNat = 0 := by omega
    rw [hz]
    have hn1 : n < 1 := by omega
    clear hz hL
    go_enter Tryd.func22, Tryd.ntmps22
    go_wp2
    go_ret
    exact ⟨_, rfl, Bs.nil w, Below.refl _ _⟩
theorem read_lit (r e : Int) (n : Int) (v : Value) (L : List (List UInt8)) (w : World) (hL : Laid3 w) (hB : Bss w v L) (hr0 : 0 < r) (hr : r < 200) (he0 : 0 ≤ e) (he : e < 256) (hn2 : n ≤ 9223372036854775807) :
    Calls Tryd.prog 22 #[.int .i64 n, .int .i64 r, .int .u8 e, v] w fun e' w' => ∃ v', e' = .returned v' ∧ Bs w' v' (spongeL r.toNat e.toNat L.flatten (min n 65536).toNat) ∧ Below w.heap.size w w' := by
  have h := read_any r.toNat e.toNat n v L w hL hB (by omega) (by omega) (by omega) hn2
  rwa [show (r.toNat : Int) = r by omega, show (e.toNat : Int) = e by omega] at h

theorem sum3_256_any (v : Value) (L : List (List UInt8)) (w : World) (hL : Laid3 w) (hB : Bss w v L) :
    Calls Tryd.prog 10 #[v] w fun e w' => ∃ v', e = .returned v' ∧ Bs w' v' (spongeL 136 6 L.flatten 32) ∧ Below w.heap.size w w' := by
  have HV := Lib.hid hB
  have HT := Lib.hid hL
  clear hB hL
  go_enter Tryd.func10, Tryd.ntmps10
  go_wp2_with (go_at_call 22; refine (read_lit _ _ _ _ L _ HT.out HV.out (by omega) (by omega) (by omega) (by omega) (by omega)).mono ?_; rintro e w2 ⟨v', rfl, hB2, hb2⟩)
  go_ret
  exact ⟨_, rfl, hB2, hb2⟩
theorem sum3_512_any (v : Value) (L : List (List UInt8)) (w : World) (hL : Laid3 w) (hB : Bss w v L) :
    Calls Tryd.prog 24 #[v] w fun e w' => ∃ v', e = .returned v' ∧ Bs w' v' (spongeL 72 6 L.flatten 64) ∧ Below w.heap.size w w' := by
  have HV := Lib.hid hB
  have HT := Lib.hid hL
  clear hB hL
  go_enter Tryd.func24, Tryd.ntmps24
  go_wp2_with (go_at_call 22; refine (read_lit _ _ _ _ L _ HT.out HV.out (by omega) (by omega) (by omega) (by omega) (by omega)).mono ?_; rintro e w2 ⟨v', rfl, hB2, hb2⟩)
  go_ret
  exact ⟨_, rfl, hB2, hb2⟩
theorem shake256_any (n : Int) (v : Value) (L : List (List UInt8)) (w : World) (hL : Laid3 w) (hB : Bss w v L) (hn2 : n ≤ 9223372036854775807) :
    Calls Tryd.prog 47 #[.int .i64 n, v] w fun e w' => ∃ v', e = .returned v' ∧ Bs w' v' (spongeL 136 31 L.flatten (min n 65536).toNat) ∧ Below w.heap.size w w' := by
  have HV := Lib.hid hB
  have HT := Lib.hid hL
  clear hB hL
  go_enter Tryd.func47, Tryd.ntmps47
  go_wp2_with (go_at_call 22; refine (read_lit _ _ _ _ L _ HT.out HV.out (by omega) (by omega) (by omega) (by omega) (by omega)).mono ?_; rintro e w2 ⟨v', rfl, hB2, hb2⟩)
  go_ret
  exact ⟨_, rfl, hB2, hb2⟩

/-- A reader of all of b at block y, behind p bytes. -/
def ReaderAt (w : World) (y : Nat) (b : List UInt8) (p : Nat) : Prop := w.rowIs y 98 27 (spF (gv 168 (closedS 168 31 b) p).1 168 (gv 168 (closedS 168 31 b) p).2)

set_option maxHeartbeats 800000 in
theorem newReader_any (v : Value) (L : List (List UInt8)) (w : World) (hL : Laid3 w) (hB : Bss w v L) :
    Calls Tryd.prog 54 #[v] w fun e w' => ∃ y, e = .returned (.pointer (some ⟨y, 0, none⟩)) ∧ w.heap.size ≤ y ∧ ReaderAt w' y L.flatten 0 ∧ Below w.heap.size w w' := by
  have HV := Lib.hid hB
  have HT := Lib.hid hL
  clear hB hL
  go_enter Tryd.func54, Tryd.ntmps54
  go_wp2_with (first
    | (go_at_call 40; refine (closed_any 168 31 _ L _ HT.out HV.out (by omega) (by omega) (by omega)).mono ?_; rintro e w2 ⟨rfl, hb2⟩)
    | refine wpList_build_arr rfl 98 _ rfl (arrOf 27 (spF (closedS 168 31 L.flatten) 168 168)) (by kernel_rfl) ?_)
  go_ret
  exact ⟨_, rfl, hb2.size, rowIs_arr w2 27 _ _, hb2.alloc hb2.size _⟩

set_option maxHeartbeats 800000 in
theorem rread_in (y : Nat) (b : List UInt8) (p : Nat) (n : Int) (w : World) (hL : Laid3 w) (hR : ReaderAt w y b p) (hy : 3 ≤ y) (h0 : 1 ≤ n) (h1 : n ≤ 65536) :
    Calls Tryd.prog 55 #[.pointer (some ⟨y, 0, none⟩), .int .i64 n] w fun e w' => ∃ v, e = .returned v ∧ Bs w' v (pieceL 168 (closedS 168 31 b) p n.toNat) ∧ ReaderAt w' y b (p + n.toNat) ∧ w.grownBy w' (some y) := by
  have hn1 : ¬ n < 1 := by omega
  have hn2 : ¬ n > 65536 := by omega
  unfold ReaderAt at hR
  have hrt := hR.cell (i := 25) (by omega)
  rw [spF_rate] at hrt
  have HT := Lib.hid hL
  clear hL
  go_enter Tryd.func55, Tryd.ntmps55
  go_wp2_with (go_at_call 41; refine (give_lit y _ (closedS 168 31 b) 168 p _ _ HT.out hR hy (by omega) (by omega) (by omega) (by omega)).mono ?_; rintro e w2 ⟨v', rfl, hB2, hR2, hg2⟩)
  go_ret
  exact ⟨_, rfl, hB2, hR2, hg2⟩
end Go.Proofs.YtflblaccfiigfabDoor

/- The document's numbers below p: StrictFe. -/
set_option linter.unusedSimpArgs false
set_option linter.unusedVariables false
namespace Go.Proofs.YtflblaccfiigfabDoor
open Go.RowKit Go.Deep

section
variable {P : Program} {ops : Array Oper} {Q : Exit → Act → World → Prop}
end
end Go.Proofs.YtflblaccfiigfabDoor

/- Bytes and numbers, the least byte first: what StrictFe reads is what is below p. -/
set_option linter.unusedSimpArgs false
set_option linter.unusedVariables false
namespace Go.Proofs.YtflblaccfiigfabDoor
open Go.RowKit Go.Deep

theorem pow256_pos (k : Nat) : 0 < 256 ^ k := Nat.pow_pos (by decide)
theorem litB_getD (V n i : Nat) (h : i < n) : (litB V n).getD i 0 = UInt8.ofNat (V / 256 ^ i) := by
  unfold litB
  rw [List.getD_eq_getElem?_getD, List.getElem?_map, List.getElem?_range h]
  show UInt8.ofNat (V / 2 ^ (8 * i)) = _
  rw [Nat.pow_mul]
theorem numL_litB (V n : Nat) : ∀ k, k ≤ n → numL (litB V n) k = V % 256 ^ k
  | 0, _ => by rw [Nat.pow_zero, Nat.mod_one]; rfl
  | k + 1, h => by
    rw [numL, numL_litB V n k (by omega), litB_getD V n k (by omega), Nat.pow_succ, Nat.mod_mul]
    simp only [UInt8.toNat_ofNat']
    rw [Nat.mul_comm]
theorem numL_add (l : List UInt8) (i : Nat) : ∀ d, ∃ r, numL l (i + d) = numL l i + 256 ^ i * r
  | 0 => ⟨0, by simp⟩
  | d + 1 => by
    obtain ⟨r, hr⟩ := numL_add l i d
    refine ⟨r + (l.getD (i + d) 0).toNat * 256 ^ d, ?_⟩
    show numL l (i + d) + (l.getD (i + d) 0).toNat * 256 ^ (i + d) = _
    rw [hr, Nat.mul_add, Nat.pow_add]
    have : (l.getD (i + d) 0).toNat * (256 ^ i * 256 ^ d) = 256 ^ i * ((l.getD (i + d) 0).toNat * 256 ^ d) := by ac_rfl
    omega
theorem numL_dig (l : List UInt8) (n i : Nat) (h : i < n) : numL l n / 256 ^ i % 256 = (l.getD i 0).toNat := by
  obtain ⟨r, hr⟩ := numL_add l (i + 1) (n - (i + 1))
  rw [show i + 1 + (n - (i + 1)) = n by omega] at hr
  have h1 := numL_lt l i
  have h2 := UInt8.toNat_lt (l.getD i 0)
  rw [hr, numL, Nat.pow_succ]
  have e : numL l i + (l.getD i 0).toNat * 256 ^ i + 256 ^ i * 256 * r = numL l i + 256 ^ i * ((l.getD i 0).toNat + 256 * r) := by
    rw [Nat.mul_add, Nat.mul_assoc, Nat.mul_comm (l.getD i 0).toNat]; omega
  rw [e, Nat.add_mul_div_left _ _ (pow256_pos i), Nat.div_eq_of_lt h1]
  omega
end Go.Proofs.YtflblaccfiigfabDoor

/- Numbers of a few binary digits each, packed into bytes and read of them. -/
namespace Go.Proofs.YtflblaccfiigfabDoor
open Go.RowKit Go.Deep
set_option linter.unusedSimpArgs false
set_option linter.unusedVariables false

theorem p256 (k : Nat) : (256 : Nat) ^ k = 2 ^ (8 * k) := by rw [Nat.pow_mul]
theorem p256_pos (k : Nat) : 0 < (256 : Nat) ^ k := Nat.pow_pos (by decide)
theorem litB_el (V n i : Nat) (h : i < (litB V n).length) : (litB V n)[i] = UInt8.ofNat (V / 256 ^ i) := by
  simp [litB, p256]
theorem litB_el_nat (V n i : Nat) (h : i < (litB V n).length) : ((litB V n)[i]).toNat = V / 256 ^ i % 256 := by
  rw [litB_el, UInt8.toNat_ofNat']
/-- The number of packed numbers of d digits. -/
def pk (v : Nat → Nat) (d : Nat) : Nat → Nat
  | 0 => 0
  | n + 1 => pk v d n + v n * 2 ^ (d * n)
theorem pk_lt (v : Nat → Nat) (d : Nat) (hv : ∀ i, v i < 2 ^ d) : ∀ n, pk v d n < 2 ^ (d * n)
  | 0 => by rw [Nat.mul_zero]; exact Nat.zero_lt_one
  | n + 1 => by
    have h1 := pk_lt v d hv n
    have h2 : (v n + 1) * 2 ^ (d * n) ≤ 2 ^ d * 2 ^ (d * n) := Nat.mul_le_mul_right _ (hv n)
    rw [Nat.add_mul, Nat.one_mul] at h2
    rw [pk, Nat.mul_succ, Nat.pow_add, Nat.mul_comm (2 ^ (d * n))]
    omega
theorem pk_part (v : Nat → Nat) (d : Nat) (hv : ∀ i, v i < 2 ^ d) (i : Nat) : ∀ n, i < n → pk v d n / 2 ^ (d * i) % 2 ^ d = v i
  | n + 1, h => by
    rw [pk]
    by_cases e : i = n
    · subst e
      rw [Nat.add_mul_div_right _ _ (Nat.pow_pos (by decide)), Nat.div_eq_of_lt (pk_lt v d hv i), Nat.zero_add, Nat.mod_eq_of_lt (hv i)]
    · have h3 : v n * 2 ^ (d * n) = 2 ^ (d * i) * (2 ^ d * (v n * 2 ^ (d * (n - i - 1)))) := by
        have e2 : d * n = d * i + (d + d * (n - i - 1)) := by
          conv => lhs; rw [show n = i + (1 + (n - i - 1)) by omega]
          rw [Nat.mul_add, Nat.mul_add, Nat.mul_one]
        rw [e2, Nat.pow_add, Nat.pow_add]
        ac_rfl
      rw [h3, Nat.add_mul_div_left _ _ (Nat.pow_pos (by decide)), Nat.add_mul_mod_self_left, pk_part v d hv i n (by omega)]
/-- What is written of a place. -/
def vvN (f : Nat → Nat) (d i : Nat) : Nat := if d = 12 then f i % 3329 else f i % 2 ^ d
theorem vvN_lt (f : Nat → Nat) (d i : Nat) : vvN f d i < 2 ^ d := by
  unfold vvN
  by_cases h : d = 12
  · rw [if_pos h, h]
    exact Nat.lt_trans (Nat.mod_lt _ (by decide)) (by decide)
  · rw [if_neg h]
    exact Nat.mod_lt _ (Nat.pow_pos (by decide))
def encL (f : Nat → Nat) (d : Nat) : List UInt8 := litB (pk (vvN f d) d 256) (32 * d)
end Go.Proofs.YtflblaccfiigfabDoor

/- The document's own permutation: the columns, theta. -/
set_option linter.unusedSimpArgs false
set_option linter.unusedVariables false
namespace Go.Proofs.YtflblaccfiigfabDoor
open Go.RowKit Go.Deep

end Go.Proofs.YtflblaccfiigfabDoor

/- The document's own permutation: theta. -/
set_option linter.unusedSimpArgs false
set_option linter.unusedVariables false
namespace Go.Proofs.YtflblaccfiigfabDoor
open Go.RowKit Go.Deep

end Go.Proofs.YtflblaccfiigfabDoor

/- The document's own permutation: rho and pi by a walk. -/
set_option linter.unusedSimpArgs false
set_option linter.unusedVariables false
namespace Go.Proofs.YtflblaccfiigfabDoor
open Go.RowKit Go.Deep

end Go.Proofs.YtflblaccfiigfabDoor

/- The document's own permutation: chi. -/
set_option linter.unusedSimpArgs false
set_option linter.unusedVariables false
namespace Go.Proofs.YtflblaccfiigfabDoor
open Go.RowKit Go.Deep

end Go.Proofs.YtflblaccfiigfabDoor

/- The document's own permutation: iota by a register. -/
set_option linter.unusedSimpArgs false
set_option linter.unusedVariables false
namespace Go.Proofs.YtflblaccfiigfabDoor
open Go.RowKit Go.Deep

end Go.Proofs.YtflblaccfiigfabDoor

/- The document's own permutation. -/
set_option linter.unusedSimpArgs false
set_option linter.unusedVariables false
namespace Go.Proofs.YtflblaccfiigfabDoor
open Go.RowKit Go.Deep

end Go.Proofs.YtflblaccfiigfabDoor

/- The document's own sponge: a block is laid over the lanes; a block is given out. -/
set_option linter.unusedSimpArgs false
set_option linter.unusedVariables false
namespace Go.Proofs.YtflblaccfiigfabDoor
open Go.RowKit Go.Deep

end Go.Proofs.YtflblaccfiigfabDoor

/- The document's own sponge. -/
set_option linter.unusedSimpArgs false
set_option linter.unusedVariables false
namespace Go.Proofs.YtflblaccfiigfabDoor
open Go.RowKit Go.Deep

/-- A slice of the call's own as a row. -/
theorem Owns.row {w : World} {base : Nat} {v : Value} {l : List UInt8} (h : Owns w base v l) (hn : 0 < l.length) :
    ∃ g cap f, v = .slice (some ⟨g, 0, none⟩) l.length cap ∧ base ≤ g ∧ l.length ≤ cap ∧ cap ≤ maxLen ∧ w.rowIs g 5 cap f ∧ ∀ i (hi : i < l.length), f i = .int .u8 ((l[i]).toNat : Int) := by
  obtain ⟨_, h2⟩ := h
  rcases h2 with ⟨rfl, hz⟩ | ⟨g, cap, cur, rfl, hb, hg, hle, hm, hs, ht⟩
  · omega
  · have hs' : cur.size = cap := by simpa using hs
    refine ⟨g, cap, fun i => cur.getD i default, rfl, hb, hle, hm, ⟨cur, hg, hs', fun i hi => ?_⟩, fun i hi => ?_⟩
    · show cur[i]? = some (cur.getD i default)
      rw [Array.getElem?_eq_getElem (by omega), Array.getD_eq_getD_getElem?, Array.getElem?_eq_getElem (by omega)]
      rfl
    · have h1 : (u8s l)[i]? = cur.toList[i]? := by
        rw [← ht, List.getElem?_take_of_lt (by omega)]
      have h2 : (u8s l)[i]? = some (.int .u8 ((l[i]).toNat : Int)) := by simp [u8s, hi]
      rw [h2] at h1
      have h3 : cur[i]? = some (.int .u8 ((l[i]).toNat : Int)) := by rw [← Array.getElem?_toList]; exact h1.symm
      show cur.getD i default = _
      rw [Array.getD_eq_getD_getElem?, h3]
      rfl
theorem Owns.of_block {w w' : World} {base : Nat} {v : Value} {l : List UInt8} (h : Owns w base v l) (e : ∀ k, v.ownBlock = some k → base ≤ k → k < w.heap.size → w'.heap[k]? = w.heap[k]?) : Owns w' base v l := by
  obtain ⟨h1, h2⟩ := h
  rcases h2 with h2 | ⟨g, cap, cur, rfl, hb, hg, hr⟩
  · exact ⟨h1, .inl h2⟩
  · exact ⟨h1, .inr ⟨g, cap, cur, rfl, hb, (e g rfl hb (Array.getElem?_eq_some_iff.1 hg).1).trans hg, hr⟩⟩
end Go.Proofs.YtflblaccfiigfabDoor

/- The sum of no bytes, by the kernel, a round a time. -/
set_option linter.unusedSimpArgs false
set_option linter.unusedVariables false
namespace Go.Proofs.YtflblaccfiigfabDoor
open Go.RowKit Go.Deep

end Go.Proofs.YtflblaccfiigfabDoor

/- missivealike.Sum, missivealike.All: how many bytes rows have, held. -/
set_option linter.unusedSimpArgs false
set_option linter.unusedVariables false
namespace Go.Proofs.YtflblaccfiigfabDoor
open Go.RowKit Go.Deep

/-- The slice value v reads as the ints xs, none of which is negative. -/
def Ns (w : World) (v : Value) (xs : List Nat) : Prop :=
  ∃ (b off cap : Nat), v = .slice (some ⟨b, off, none⟩) xs.length cap ∧ b < w.heap.size ∧ ∀ i (h : i < xs.length), w.cell? ⟨b, off + i, none⟩ = some (.int .i64 (xs[i] : Int))

theorem Ns.two (w : World) (x y : Nat) : Ns (w.alloc (.cells #[.int .i64 (x : Int), .int .i64 (y : Int)] 3)) (.slice (some ⟨w.heap.size, 0, none⟩) 2 2) [x, y] := by
  refine ⟨_, _, _, rfl, by simp, fun i hi => ?_⟩
  match i, hi with
  | 0, _ => exact World.cell?_alloc_mark w _ 3 (0, 0) 0
  | 1, _ => exact World.cell?_alloc_mark w _ 3 (0, 0) 1

end Go.Proofs.YtflblaccfiigfabDoor

/- missivealike.Cat; All and Round by their texts. -/
set_option linter.unusedSimpArgs false
set_option linter.unusedVariables false
namespace Go.Proofs.YtflblaccfiigfabDoor
open Go.RowKit Go.Deep

end Go.Proofs.YtflblaccfiigfabDoor

/- What the document answers: Sha3, Shake; what the document fixes of the program. -/
set_option linter.unusedSimpArgs false
set_option linter.unusedVariables false
namespace Go.Proofs.YtflblaccfiigfabDoor
open Go.RowKit Go.Deep

theorem Bss.nil (w : World) : Bss w (.slice none 0 0) [] := ⟨none, 0, rfl, by simp, by simp [maxLen], (fun _ => rfl), (fun x h => by cases h)⟩

end Go.Proofs.YtflblaccfiigfabDoor

/- Eight words: sha2's all and plus; the first states and the rounds' numbers, the program's and the document's. -/
set_option linter.unusedSimpArgs false
set_option linter.unusedVariables false
namespace Go.Proofs.YtflblaccfiigfabDoor
open Go.RowKit Go.Deep

def w32 (s : Nat → BitVec 32) : Nat → Value := fun i => .int .u32 ((s i).toNat : Int)
end Go.Proofs.YtflblaccfiigfabDoor

/- The numbers of the standard: the rounds' and the first states; the program's tables of them, and the document's. -/
set_option linter.unusedSimpArgs false
set_option linter.unusedVariables false
namespace Go.Proofs.YtflblaccfiigfabDoor
open Go.RowKit Go.Deep

end Go.Proofs.YtflblaccfiigfabDoor

/- A block's words: sha2's spread256, spread512. -/
set_option linter.unusedSimpArgs false
set_option linter.unusedVariables false
namespace Go.Proofs.YtflblaccfiigfabDoor
open Go.RowKit Go.Deep

end Go.Proofs.YtflblaccfiigfabDoor

/- One more block: sha2's press256, press512. -/
set_option linter.unusedSimpArgs false
set_option linter.unusedVariables false
namespace Go.Proofs.YtflblaccfiigfabDoor
open Go.RowKit Go.Deep
end Go.Proofs.YtflblaccfiigfabDoor

/- What makes whole blocks: sha2's ending. -/
set_option linter.unusedSimpArgs false
set_option linter.unusedVariables false
namespace Go.Proofs.YtflblaccfiigfabDoor
open Go.RowKit Go.Deep

end Go.Proofs.YtflblaccfiigfabDoor

/- A sum that is under way: the state behind the whole blocks, and the block that was begun; no world in it. -/
set_option linter.unusedSimpArgs false
set_option linter.unusedVariables false
namespace Go.Proofs.YtflblaccfiigfabDoor
open Go.RowKit Go.Deep

section
variable {n : Nat} (k : Kind n)
/-- Behind the bytes m: s is the state behind the whole blocks, blk begins with what is left. -/
structure Dig (m : List UInt8) (s : S8 n) (blk : Nat → UInt8) : Prop where
  state : s = k.state m (m.length / k.block)
  begun : ∀ i, i < m.length % k.block → blk i = m.getD (k.block * (m.length / k.block) + i) 0

/-- What the sum is, once the ending has come in too. -/
theorem Dig.sum {k : Kind n} {m : List UInt8} {s : S8 n} {blk : Nat → UInt8} (h : Dig k (m ++ endOf m.length k.block) s blk) : k.out s 8 = k.sum m := by
  rw [h.state]; rfl
end
end Go.Proofs.YtflblaccfiigfabDoor

/- Where a sum that is under way lies in memory; the closures that press its block. -/
set_option linter.unusedSimpArgs false
set_option linter.unusedVariables false
namespace Go.Proofs.YtflblaccfiigfabDoor
open Go.RowKit Go.Deep

end Go.Proofs.YtflblaccfiigfabDoor

/- sha2's cut: bytes come in, whole blocks are pressed. -/
set_option linter.unusedSimpArgs false
set_option linter.unusedVariables false
namespace Go.Proofs.YtflblaccfiigfabDoor
open Go.RowKit Go.Deep

end Go.Proofs.YtflblaccfiigfabDoor

/- Hash256: Add. -/
set_option linter.unusedSimpArgs false
set_option linter.unusedVariables false
namespace Go.Proofs.YtflblaccfiigfabDoor
open Go.RowKit Go.Deep

end Go.Proofs.YtflblaccfiigfabDoor

/- Hash256: Copy and Sum; Sum256. -/
set_option linter.unusedSimpArgs false
set_option linter.unusedVariables false
namespace Go.Proofs.YtflblaccfiigfabDoor
open Go.RowKit Go.Deep

/-- A slice of the call's own stands behind calls that make no more than new blocks. -/
theorem Owns.below {w w' : World} {base : Nat} {v : Value} {l : List UInt8} (h : Owns w base v l) (hb : Below w.heap.size w w') : Owns w' base v l := by
  obtain ⟨h1, h2⟩ := h
  refine ⟨h1, ?_⟩
  rcases h2 with h2 | ⟨g, cap, cur, rfl, hbg, hg, h3⟩
  · exact .inl h2
  · exact .inr ⟨g, cap, cur, rfl, hbg, (hb.block g (Array.getElem?_eq_some_iff.1 hg).1).trans hg, h3⟩

end Go.Proofs.YtflblaccfiigfabDoor

/- Sum256 and Sum512 of rows; the Hash256 that is nil. -/
set_option linter.unusedSimpArgs false
set_option linter.unusedVariables false
namespace Go.Proofs.YtflblaccfiigfabDoor
open Go.RowKit Go.Deep

end Go.Proofs.YtflblaccfiigfabDoor

/- HMAC and HKDF in words: what both the program's and the document's are walked to; no world in it. -/
set_option linter.unusedSimpArgs false
set_option linter.unusedVariables false
namespace Go.Proofs.YtflblaccfiigfabDoor
open Go.RowKit Go.Deep

end Go.Proofs.YtflblaccfiigfabDoor

/- Bytes laid over each other: flat.Xor, missiveref1.Xor. -/
set_option linter.unusedSimpArgs false
set_option linter.unusedVariables false
namespace Go.Proofs.YtflblaccfiigfabDoor
open Go.RowKit Go.Deep

end Go.Proofs.YtflblaccfiigfabDoor

/- The program's HMAC: begun, NewKey, Key.Mac, Mac, Extract. -/
set_option linter.unusedSimpArgs false
set_option linter.unusedVariables false
namespace Go.Proofs.YtflblaccfiigfabDoor
open Go.RowKit Go.Deep

end Go.Proofs.YtflblaccfiigfabDoor

/- The program's HKDF: stretch, Expand, Derive. -/
set_option linter.unusedSimpArgs false
set_option linter.unusedVariables false
namespace Go.Proofs.YtflblaccfiigfabDoor
open Go.RowKit Go.Deep

theorem Bss.three {w : World} {v1 v2 v3 : Value} {l1 l2 l3 : List UInt8} (h1 : Bs w v1 l1) (h2 : Bs w v2 l2) (h3 : Bs w v3 l3) {n : Nat} (hn : w.heap.size = n) : Bss (w.alloc (.cells #[v1, v2, v3] 22)) (.slice (some ⟨n, 0, none⟩) 3 3) [l1, l2, l3] := by
  subst hn
  have hb : Below w.heap.size w (w.alloc (.cells #[v1, v2, v3] 22)) := (Below.refl _ _).alloc (Nat.le_refl _) _
  refine ⟨_, 3, rfl, by simp, by simp [maxLen], (fun h => by cases h), fun x hx i hi => ?_⟩
  cases hx
  match i, hi with
  | 0, _ =>
    refine ⟨by simp, v1, ?_, h1.below hb (Nat.le_refl _)⟩
    rw [add_eq]
    exact World.cell?_alloc_mark w #[v1, v2, v3] 22 (0, 0) 0
  | 1, _ =>
    refine ⟨by simp, v2, ?_, h2.below hb (Nat.le_refl _)⟩
    rw [add_eq]
    exact World.cell?_alloc_mark w #[v1, v2, v3] 22 (0, 0) 1
  | 2, _ =>
    refine ⟨by simp, v3, ?_, h3.below hb (Nat.le_refl _)⟩
    rw [add_eq]
    exact World.cell?_alloc_mark w #[v1, v2, v3] 22 (0, 0) 2

end Go.Proofs.YtflblaccfiigfabDoor

/- Sum512 of rows. -/
set_option linter.unusedSimpArgs false
set_option linter.unusedVariables false
namespace Go.Proofs.YtflblaccfiigfabDoor
open Go.RowKit Go.Deep

end Go.Proofs.YtflblaccfiigfabDoor

/- What the document's sums need: a slice with both bounds, words out of a slice, sums of words. -/
set_option linter.unusedSimpArgs false
set_option linter.unusedVariables false
namespace Go.Proofs.YtflblaccfiigfabDoor
open Go.RowKit Go.Deep

end Go.Proofs.YtflblaccfiigfabDoor

/- The document's sums: the first sixteen words of a block. -/
set_option linter.unusedSimpArgs false
set_option linter.unusedVariables false
namespace Go.Proofs.YtflblaccfiigfabDoor
open Go.RowKit Go.Deep

end Go.Proofs.YtflblaccfiigfabDoor

/- The document's sums: the words that follow. -/
set_option linter.unusedSimpArgs false
set_option linter.unusedVariables false
namespace Go.Proofs.YtflblaccfiigfabDoor
open Go.RowKit Go.Deep

end Go.Proofs.YtflblaccfiigfabDoor

/- The document's sums: the rounds. -/
set_option linter.unusedSimpArgs false
set_option linter.unusedVariables false
namespace Go.Proofs.YtflblaccfiigfabDoor
open Go.RowKit Go.Deep

end Go.Proofs.YtflblaccfiigfabDoor

/- The document's sums: the state behind the rounds is added. -/
set_option linter.unusedSimpArgs false
set_option linter.unusedVariables false
namespace Go.Proofs.YtflblaccfiigfabDoor
open Go.RowKit Go.Deep

end Go.Proofs.YtflblaccfiigfabDoor

/- The document's own sums. -/
set_option linter.unusedSimpArgs false
set_option linter.unusedVariables false
namespace Go.Proofs.YtflblaccfiigfabDoor
open Go.RowKit Go.Deep

end Go.Proofs.YtflblaccfiigfabDoor

/- The document's HMAC and HKDF. -/
set_option linter.unusedSimpArgs false
set_option linter.unusedVariables false
namespace Go.Proofs.YtflblaccfiigfabDoor
open Go.RowKit Go.Deep

end Go.Proofs.YtflblaccfiigfabDoor

/- The document's polynomials: noise. -/
namespace Go.Proofs.YtflblaccfiigfabDoor
open Go.RowKit Go.Deep
set_option linter.unusedSimpArgs false
set_option linter.unusedVariables false

theorem exec_twoB (ρ : Operand → Value) (x y : Operand) (t : TypeId) (w : World) (b c : UInt8) (hx : ρ x = .int .u8 (b.toNat : Int)) (hy : ρ y = .int .u8 (c.toNat : Int)) :
    (execOp ρ (mkOp (.buildSlice 22 2 #[(0, x), (1, y)]) t)).run Tryd.prog w = .ok (.value (.slice (some ⟨w.heap.size, 0, none⟩) 2 2)) (w.alloc (.cells #[.int .u8 (b.toNat : Int), .int .u8 (c.toNat : Int)] 5)) := by
  simp only [execOp, mkOp, List.map_toArray, List.map_cons, List.map_nil, hx, hy]
  go_simp
theorem wpList_twoB {ops : Array Oper} {rest : List Oper} {o : Oper} {a : Act} {w : World} {Q : Exit → Act → World → Prop} (hgd : o.guard = none) (x y : Operand) (ho : o.op = .buildSlice 22 2 #[(0, x), (1, y)]) (b c : UInt8) (hx : a.eval x = .int .u8 (b.toNat : Int)) (hy : a.eval y = .int .u8 (c.toNat : Int))
    (h : ∀ v w', Bs w' v [b, c] → Below w.heap.size w w' → wpList Tryd.prog ops Q rest (a.put o.dst v) w') : wpList Tryd.prog ops Q (o :: rest) a w := by
  have hr := exec_twoB a.eval x y o.type w b c hx hy
  exact wpList_plain hgd fun _ hK => by
    unfold Oper.wp
    rw [exec_mkOp, ho, hr]
    exact hK _ _ (h _ _ (Bs.two w b c) ((Below.refl _ _).alloc (Nat.le_refl _) _))
def noiseN (c : List UInt8) (i : Nat) : Nat := (bitL c (4 * i) + bitL c (4 * i + 1) + 3329 - bitL c (4 * i + 2) - bitL c (4 * i + 3)) % 3329
theorem noiseN_lt (c : List UInt8) (i : Nat) : noiseN c i < 3329 := Nat.mod_lt _ (by decide)
end Go.Proofs.YtflblaccfiigfabDoor

/- The document's polynomials: drawn of a seed. -/
namespace Go.Proofs.YtflblaccfiigfabDoor
open Go.RowKit Go.Deep
set_option linter.unusedSimpArgs false
set_option linter.unusedVariables false

def updN (f : Nat → Nat) (k a i : Nat) : Nat := if i = k then a else f i
def ua (c : List UInt8) (j : Nat) : Nat := (c.getD (3 * j) 0).toNat + 256 * ((c.getD (3 * j + 1) 0).toNat % 16)
def ub (c : List UInt8) (j : Nat) : Nat := (c.getD (3 * j + 1) 0).toNat / 16 + 16 * (c.getD (3 * j + 2) 0).toNat
def uOne (a : Nat) (s : Nat × (Nat → Nat)) : Nat × (Nat → Nat) := if a < 3329 ∧ s.1 < 256 then (s.1 + 1, updN s.2 s.1 a) else s
/-- What the first three-byte pieces of c lay, upon f0. -/
def uR (c : List UInt8) (f0 : Nat → Nat) : Nat → Nat × (Nat → Nat)
  | 0 => (0, f0)
  | j + 1 => uOne (ub c j) (uOne (ua c j) (uR c f0 j))
theorem uOne_full (a : Nat) (s : Nat × (Nat → Nat)) (h : ¬ s.1 < 256) : uOne a s = s := if_neg fun k => h k.2
theorem uR_stay (c : List UInt8) (f0 : Nat → Nat) (j : Nat) (h : ¬ (uR c f0 j).1 < 256) : ∀ i, uR c f0 (j + i) = uR c f0 j
  | 0 => rfl
  | i + 1 => by
    show uOne _ (uOne _ (uR c f0 (j + i))) = _
    rw [uR_stay c f0 j h i, uOne_full _ _ h, uOne_full _ _ h]
theorem uOne_lt (a : Nat) (s : Nat × (Nat → Nat)) (h : ∀ i, s.2 i < 3329) (i : Nat) : (uOne a s).2 i < 3329 := by
  unfold uOne
  by_cases e : a < 3329 ∧ s.1 < 256
  · rw [if_pos e]
    show updN s.2 s.1 a i < 3329
    unfold updN
    split
    · exact e.1
    · exact h i
  · rw [if_neg e]; exact h i
theorem uR_lt (c : List UInt8) (f0 : Nat → Nat) (h0 : ∀ i, f0 i < 3329) : ∀ j i, (uR c f0 j).2 i < 3329
  | 0, i => h0 i
  | j + 1, i => uOne_lt _ _ (uOne_lt _ _ (uR_lt c f0 h0 j)) i
end Go.Proofs.YtflblaccfiigfabDoor

/- The program's polynomials that are drawn: pair, filled, Uniform. -/
namespace Go.Proofs.YtflblaccfiigfabDoor
open Go.RowKit Go.Deep
set_option linter.unusedSimpArgs false
set_option linter.unusedVariables false

theorem and15_u16 (y : Nat) (h : y < 256) : bits .and .u16 (y : Int) 15 = ((y % 16 : Nat) : Int) := by
  have g : ∀ y : Fin 256, bits .and .u16 ((y.val : Nat) : Int) 15 = ((y.val % 16 : Nat) : Int) := by decide +kernel
  exact g ⟨y, h⟩
theorem or_lo (x r : Nat) (h : x < 256) (hr : r < 16) : bits .or .u16 (x : Int) ((r * 256 : Nat) : Int) = ((x + 256 * r : Nat) : Int) := by
  have g : ∀ x : Fin 256, ∀ r : Fin 16, bits .or .u16 ((x.val : Nat) : Int) ((r.val * 256 : Nat) : Int) = ((x.val + 256 * r.val : Nat) : Int) := by decide +kernel
  exact g ⟨x, h⟩ ⟨r, hr⟩
theorem or_hi (d z : Nat) (h : d < 16) (hz : z < 256) : bits .or .u16 (d : Int) ((z * 16 : Nat) : Int) = ((d + 16 * z : Nat) : Int) := by
  have g : ∀ d : Fin 16, ∀ z : Fin 256, bits .or .u16 ((d.val : Nat) : Int) ((z.val * 16 : Nat) : Int) = ((d.val + 16 * z.val : Nat) : Int) := by decide +kernel
  exact g ⟨d, h⟩ ⟨z, hz⟩
theorem arr2 : IsArr Tryd.prog 95 2 := ⟨by kernel_rfl, by kernel_rfl⟩
theorem zero2 : (Tryd.prog.info? 95).map (fun i => i.zero) = some (some (.agg (arrOf 2 (pyF fun _ => 0)))) := by kernel_rfl
theorem built2 (a b : Nat) (f : Nat → Nat) (h0 : f 0 = a) (h1 : f 1 = b) : Tryd.prog.built 95 [(0, .int .u16 (a : Int)), (1, .int .u16 (b : Int))] = some (arrOf 2 (pyF f)) := by
  subst h0 h1
  kernel_rfl
/-- The two numbers of three bytes. -/
def pairN (c : List UInt8) (i : Nat) : Nat := if i = 0 then ua c 0 else ub c 0
set_option maxHeartbeats 4000000 in
set_option maxRecDepth 200000 in
theorem pair_any (v0 : Value) (l0 : List UInt8) (w : World) (h0 : Bs w v0 l0) (hl : l0.length = 3) : Calls Tryd.prog 61 #[v0] w fun e w' => e = .returned (.agg (arrOf 2 (pyF (pairN l0)))) ∧ Below w.heap.size w w' := by
  have Bw0 := Below.refl w.heap.size w
  have HGS : Hid (∀ wq : World, Below w.heap.size w wq → w.heap.size ≤ wq.heap.size) := Lib.hid fun wq h => h.size
  obtain ⟨gb, ob, cb, rfl, hb1, hb2, hb3, hb4⟩ := h0.open_n (n := 3) hl (by decide)
  have HLL := Lib.hid hl
  obtain ⟨x, hx⟩ := nat_var (l0.getD 0 0).toNat
  obtain ⟨y, hy⟩ := nat_var (l0.getD 1 0).toNat
  obtain ⟨z, hz⟩ := nat_var (l0.getD 2 0).toNat
  have hxl : x < 256 := by rw [hx]; exact UInt8.toNat_lt _
  have hyl : y < 256 := by rw [hy]; exact UInt8.toNat_lt _
  have hzl : z < 256 := by rw [hz]; exact UInt8.toNat_lt _
  have H3 := Lib.hid (And.intro hx (And.intro hy hz))
  obtain ⟨r, hr⟩ := nat_var (y % 16)
  obtain ⟨r2, hr2⟩ := nat_var (r * 256)
  obtain ⟨d, hd⟩ := nat_var (y / 16)
  obtain ⟨z2, hz2⟩ := nat_var (z * 16)
  obtain ⟨A, hA⟩ := nat_var (x + 256 * r)
  obtain ⟨B, hB⟩ := nat_var (d + 16 * z)
  have w1 : IntKind.u16.wrap (x : Int) = (x : Int) := by rw [IntKind.wrap_u16]; omega
  have w2 : IntKind.u16.wrap (y : Int) = (y : Int) := by rw [IntKind.wrap_u16]; omega
  have w3 : IntKind.u16.wrap (z : Int) = (z : Int) := by rw [IntKind.wrap_u16]; omega
  have s1 : IntKind.u16.wrap ((r : Int) * 256) = (r2 : Int) := by rw [IntKind.wrap_u16]; omega
  have s2 : (y : Int) / 16 = (d : Int) := by omega
  have s3 : (z : Int) * 16 = (z2 : Int) := by omega
  have e1 := and15_u16 y hyl
  rw [← hr] at e1
  have e2 := or_lo x r hxl (by omega)
  rw [← hr2, ← hA] at e2
  have e3 := or_hi d z (by omega) hzl
  rw [← hz2, ← hB] at e3
  have HRES : Hid (∀ i, i < 2 → pairN l0 i = if i = 0 then A else B) := Lib.hid fun i hi => by
    unfold pairN ua ub
    rw [Nat.mul_zero, Nat.zero_add, Nat.zero_add, ← hx, ← hy, ← hz, ← hr, ← hd, ← hA, ← hB]
  have HV0 : Hid (pairN l0 0 = A) := Lib.hid ((HRES.out 0 (by decide)).trans (if_pos rfl))
  have HV1 : Hid (pairN l0 1 = B) := Lib.hid ((HRES.out 1 (by decide)).trans (if_neg (by decide)))
  have f_s0 := h0
  clear hb1 hb2 hb3 hb4 h0 hx hy hz hr hr2 hd hz2 hA hB hl HRES
  go_enter Tryd.func61, Tryd.ntmps61
  go_wp2_with (first
    | (have hgo := Bw0; clear hgo
       refine wpList_alloc_row rfl 95 rfl 2 (pyF fun _ => 0) zero2 ?_
       intro b_t2 w1 lk r_t2 kk
       have l_t2 := zrl HGS Bw0 lk
       have a_s0_t2 := Bs.away f_s0 lk
       replace f_s0 := zfb f_s0 kk
       have Bw1 := zbt HGS Bw0 kk
       clear Bw0 kk lk))
  have Bw2 := Bw1.drew
  replace r_t2 := World.rowIs.drew r_t2
  replace f_s0 := Bs.drew f_s0
  clear Bw1
  refine wp_region_lint (.rd 0 (.rd 1 (.rd 2 (.rd 3 (.rd 4 (.rd 5 (.rd 6 (.rd 7 (.rd 8 (.rd 9 (.rd 10 (.rd 11 (.rd 12 (.rd 13 (.rd 14 .done))))))))))))))) (by kernel_rfl) (by kernel_rfl) (by decide) (by kernel_rfl) (fun d _ _ _ _ h => by cases d <;> exact h) ?_
  refine lint_pure 6 (Op.move (Operand.tmp 0)) 22 (.slice (some ⟨gb, ob, none⟩) 3 cb) rfl rfl rfl rfl rfl (fun w0 hb0 => by unfold mkOp; go_simp; all_goals (with_reducible rfl)) ?_
  simp only [Act.put, zA, zB, zC]
  refine lint_pure 7 (Op.indexAddr 22 (Operand.tmp 6) (Operand.const (Value.int IntKind.i64 0))) 0 _ rfl rfl rfl rfl rfl (fun w0 hb0 => by unfold mkOp; go_simp; all_goals (with_reducible rfl)) ?_
  simp only [Act.put, zA, zB, zC]
  refine lint_pure 8 (Op.load 5 (Operand.tmp 7)) 5 (.int .u8 (x : Int)) rfl rfl rfl rfl rfl (fun w0 hb0 => by have c0 := bs_cell (Bs.below f_s0 hb0 (Nat.le_refl _)) 0 (by rw [HLL.out]; decide); rw [← getD_at l0 0 (by rw [HLL.out]; decide), Nat.add_zero] at c0; rw [← H3.out.1] at c0; unfold mkOp; go_simp; all_goals (with_reducible rfl)) ?_
  simp only [Act.put, zA, zB, zC]
  refine lint_pure 9 (Op.convert 5 32 (Operand.tmp 8)) 32 (.int .u16 (x : Int)) rfl rfl rfl rfl rfl (fun w0 hb0 => by unfold mkOp; go_simp; all_goals (with_reducible rfl)) ?_
  simp only [Act.put, zA, zB, zC]
  refine lint_pure 10 (Op.move (Operand.tmp 0)) 22 (.slice (some ⟨gb, ob, none⟩) 3 cb) rfl rfl rfl rfl rfl (fun w0 hb0 => by unfold mkOp; go_simp; all_goals (with_reducible rfl)) ?_
  simp only [Act.put, zA, zB, zC]
  refine lint_pure 11 (Op.indexAddr 22 (Operand.tmp 10) (Operand.const (Value.int IntKind.i64 1))) 0 _ rfl rfl rfl rfl rfl (fun w0 hb0 => by unfold mkOp; go_simp; all_goals (with_reducible rfl)) ?_
  simp only [Act.put, zA, zB, zC]
  refine lint_pure 12 (Op.load 5 (Operand.tmp 11)) 5 (.int .u8 (y : Int)) rfl rfl rfl rfl rfl (fun w0 hb0 => by have c0 := bs_cell (Bs.below f_s0 hb0 (Nat.le_refl _)) 1 (by rw [HLL.out]; decide); rw [← getD_at l0 1 (by rw [HLL.out]; decide)] at c0; rw [← H3.out.2.1] at c0; unfold mkOp; go_simp; all_goals (with_reducible rfl)) ?_
  simp only [Act.put, zA, zB, zC]
  refine lint_pure 13 (Op.convert 5 32 (Operand.tmp 12)) 32 (.int .u16 (y : Int)) rfl rfl rfl rfl rfl (fun w0 hb0 => by unfold mkOp; go_simp; all_goals (with_reducible rfl)) ?_
  simp only [Act.put, zA, zB, zC]
  refine lint_pure 14 (Op.move (Operand.tmp 0)) 22 (.slice (some ⟨gb, ob, none⟩) 3 cb) rfl rfl rfl rfl rfl (fun w0 hb0 => by unfold mkOp; go_simp; all_goals (with_reducible rfl)) ?_
  simp only [Act.put, zA, zB, zC]
  refine lint_pure 15 (Op.indexAddr 22 (Operand.tmp 14) (Operand.const (Value.int IntKind.i64 2))) 0 _ rfl rfl rfl rfl rfl (fun w0 hb0 => by unfold mkOp; go_simp; all_goals (with_reducible rfl)) ?_
  simp only [Act.put, zA, zB, zC]
  refine lint_pure 16 (Op.load 5 (Operand.tmp 15)) 5 (.int .u8 (z : Int)) rfl rfl rfl rfl rfl (fun w0 hb0 => by have c0 := bs_cell (Bs.below f_s0 hb0 (Nat.le_refl _)) 2 (by rw [HLL.out]; decide); rw [← getD_at l0 2 (by rw [HLL.out]; decide)] at c0; rw [← H3.out.2.2] at c0; unfold mkOp; go_simp; all_goals (with_reducible rfl)) ?_
  simp only [Act.put, zA, zB, zC]
  refine lint_pure 17 (Op.convert 5 32 (Operand.tmp 16)) 32 (.int .u16 (z : Int)) rfl rfl rfl rfl rfl (fun w0 hb0 => by unfold mkOp; go_simp; all_goals (with_reducible rfl)) ?_
  simp only [Act.put, zA, zB, zC]
  refine lint_pure 3 (Op.assign (Operand.tmp 9)) 32 (.int .u16 (x : Int)) rfl rfl rfl rfl rfl (fun w0 hb0 => by unfold mkOp; go_simp; all_goals (with_reducible rfl)) ?_
  simp only [Act.put, zA, zB, zC]
  refine lint_pure 4 (Op.assign (Operand.tmp 13)) 32 (.int .u16 (y : Int)) rfl rfl rfl rfl rfl (fun w0 hb0 => by unfold mkOp; go_simp; all_goals (with_reducible rfl)) ?_
  simp only [Act.put, zA, zB, zC]
  refine lint_pure 5 (Op.assign (Operand.tmp 17)) 32 (.int .u16 (z : Int)) rfl rfl rfl rfl rfl (fun w0 hb0 => by unfold mkOp; go_simp; all_goals (with_reducible rfl)) ?_
  simp only [Act.put, zA, zB, zC]
  refine lint_end ?_
  go_wp2_with (first
    | (have hgo := Bw2; clear hgo
       refine wpList_build_arr rfl 95 #[(0, Operand.tmp 22), (1, Operand.tmp 27)] rfl (arrOf 2 (pyF (pairN l0))) ?_ ?_
       · simp only [List.map_toArray, List.map_cons, List.map_nil]; exact (built2 A B (pairN l0) HV0.out HV1.out)
       have Bw3 := Bw2
       clear Bw2)
    | (have hgo := Bw3; clear hgo
       refine wpList_store_as rfl 95 (.tmp 2) (.tmp 28) rfl 2 (pyF (pairN l0)) arr2 r_t2 rfl rfl (by omega) (fun _ _ => rfl) (fun i hi => putN_whole hi) ?_
       intro w13 q gk
       replace r_t2 := q
       have Bw4 := zbg HGS Bw3 gk l_t2
       replace f_s0 := gb_bs f_s0 gk a_s0_t2
       clear Bw3 gk q))
  exact ret_cell_as _ rfl arr2 r_t2 rfl (by omega) (fun _ _ => rfl) rfl ⟨rfl, Bw4⟩
theorem pieceL_getD (r : Nat) (s : Nat → BitVec 64) (p n m : Nat) (h : m < n) : (pieceL r s p n).getD m 0 = UInt8.ofNat (ob r s (p + m)) := by
  unfold pieceL
  rw [List.getD_eq_getElem?_getD]
  simp [h]
/-- All that is drawn at most. -/
def allP (b : List UInt8) : List UInt8 := pieceL 168 (closedS 168 31 b) 0 196608
/-- The program's drawn polynomial: the first numbers below q among so many; those that are wanting are 0. -/
def lastU (c : List UInt8) (n : Nat) : Nat → Nat := (uR c (fun _ => 0) n).2
theorem lastU_lt (c : List UInt8) (n i : Nat) : lastU c n i < 3329 := uR_lt c (fun _ => 0) (fun _ => by decide) n i
def puN (b : List UInt8) : Nat → Nat := lastU (allP b) 65536
theorem puN_lt (b : List UInt8) (i : Nat) : puN b i < 3329 := lastU_lt (allP b) 65536 i
theorem puN_at (b : List UInt8) : ∃ N, N = 65536 ∧ puN b = lastU (allP b) N := ⟨65536, rfl, rfl⟩
def uP (c : List UInt8) (s : Nat × (Nat → Nat)) : Nat → Nat × (Nat → Nat)
  | 0 => s
  | j + 1 => uOne (pairN c j) (uP c s j)
theorem pair_all (b : List UInt8) (i : Nat) (hi : i < 65536) : pairN (pieceL 168 (closedS 168 31 b) (3 * i) 3) 0 = ua (allP b) i ∧ pairN (pieceL 168 (closedS 168 31 b) (3 * i) 3) 1 = ub (allP b) i := by
  have h : ∀ m, m < 3 → (pieceL 168 (closedS 168 31 b) (3 * i) 3).getD m 0 = (allP b).getD (3 * i + m) 0 := fun m hm => by
    unfold allP
    rw [pieceL_getD _ _ _ _ _ hm, pieceL_getD _ _ _ _ _ (by omega), Nat.zero_add]
  constructor
  · unfold pairN ua
    rw [if_pos rfl, Nat.mul_zero, h 0 (by decide), h 1 (by decide), Nat.add_zero]
  · unfold pairN ub
    rw [if_neg (by decide), Nat.mul_zero, h 1 (by decide), h 2 (by decide)]
theorem uP_two (b : List UInt8) (i : Nat) (hi : i < 65536) {s : Nat × (Nat → Nat)} (hs : uR (allP b) (fun _ => 0) i = s) : uP (pieceL 168 (closedS 168 31 b) (3 * i) 3) s 2 = uR (allP b) (fun _ => 0) (i + 1) := by
  obtain ⟨h0, h1⟩ := pair_all b i hi
  show uOne (pairN _ 1) (uOne (pairN _ 0) s) = uOne (ub _ i) (uOne (ua _ i) (uR _ _ i))
  rw [h0, h1, hs]
theorem uP_end (b : List UInt8) (i j N : Nat) (hN : N = 65536) (hi : i < 65536) (hj : j < 2) {s : Nat × (Nat → Nat)} {H : Nat → Nat} (hs : uR (allP b) (fun _ => 0) i = s) (h : uP (pieceL 168 (closedS 168 31 b) (3 * i) 3) s (j + 1) = (256, H)) : lastU (allP b) N = H := by
  have h2 : uR (allP b) (fun _ => 0) (i + 1) = (256, H) := by
    rw [← uP_two b i hi hs]
    rcases (show j = 0 ∨ j = 1 by omega) with rfl | rfl
    · show uOne _ (uP _ s 1) = _
      rw [h]
      exact uOne_full _ _ (Nat.lt_irrefl 256)
    · exact h
  have h3 := uR_stay (allP b) (fun _ => 0) (i + 1) (by rw [h2]; exact Nat.lt_irrefl 256) (N - (i + 1))
  rw [show i + 1 + (N - (i + 1)) = N by omega, h2] at h3
  unfold lastU
  rw [h3]
theorem ReaderAt.below {w w' : World} {y p : Nat} {b : List UInt8} (h : ReaderAt w y b p) (k : Below w.heap.size w w') : ReaderAt w' y b p := zrb h k
theorem ReaderAt.other {w w' : World} {y p z : Nat} {b : List UInt8} (h : ReaderAt w y b p) (g : w.grownBy w' (some z)) (hz : y ≠ z) : ReaderAt w' y b p := gb_rowIs h g hz
set_option maxRecDepth 100000 in
theorem wpList_index_2 {ops : Array Oper} {rest : List Oper} {o : Oper} {a : Act} {w : World} {Q : Exit → Act → World → Prop} (hgd : o.guard = none) (x y : Operand) (ho : o.op = .index 95 x y) {f : Nat → Nat} {j z : Nat} (hj : j < 2)
    (hx : a.eval x = .agg (arrOf 2 (pyF f))) (hy : a.eval y = .int .i64 (j : Int)) (hz : f j = z) (h : wpList Tryd.prog ops Q rest (a.put o.dst (.int .u16 (z : Int))) w) : wpList Tryd.prog ops Q (o :: rest) a w := by
  subst hz
  exact wpList_index_arr hgd 95 32 x y ho 2 (by kernel_rfl) _ rfl rfl (by kernel_rfl) hx hy hj h
set_option maxHeartbeats 4000000 in
set_option maxRecDepth 200000 in
theorem filled_any (y : Nat) (b : List UInt8) (w : World) (hL : Laid3 w) (hR : ReaderAt w y b 0) (hy : 3 ≤ y) : Calls Tryd.prog 53 #[.func (.func 55) #[.pointer (some ⟨y, 0, none⟩)] #[]] w fun e w' => e = .returned (.agg (arrOf 256 (pyF (puN b)))) ∧ Below y w w' := by
  have Bw0 := Below.refl w.heap.size w
  have HGS : Hid (∀ wq : World, Below w.heap.size w wq → w.heap.size ≤ wq.heap.size) := Lib.hid fun wq h => h.size
  have HT := Lib.hid hL
  have HRA := Lib.hid hR
  have HY := Lib.hid hy
  obtain ⟨N, hN, hPN⟩ := puN_at b
  rw [hPN]
  obtain ⟨RES, hRES⟩ : ∃ R, R = lastU (allP b) N := ⟨_, rfl⟩
  rw [← hRES]
  have HRES := Lib.hid hRES
  have HN := Lib.hid hN
  clear hL hR hy hRES hN hPN
  go_enter Tryd.func53, Tryd.ntmps53
  go_wp2_with (first
    | (have hgo := Bw0; clear hgo
       refine wpList_alloc_row rfl 34 rfl 256 (pyF fun _ => 0) zeroP ?_
       intro b_t2 w1 lk r_t2 kk
       have l_t2 := zrl HGS Bw0 lk
       have Bw1 := zbt HGS Bw0 kk
       clear Bw0 kk lk)
    | (have hgo := Bw1; clear hgo
       refine wpList_alloc_row rfl 34 rfl 256 (pyF fun _ => 0) zeroP ?_
       intro b_t3 w2 lk r_t3 kk
       have n_t2_t3 := zrn r_t2 lk
       have l_t3 := zrl HGS Bw1 lk
       replace r_t2 := zrb r_t2 kk
       have Bw2 := zbt HGS Bw1 kk
       clear Bw1 kk lk))
  have hyw : y < w.heap.size := World.rowIs.lt HRA.out
  have HYW := Lib.hid hyw
  have hRA : ReaderAt w2 y b (3 * 0) := World.rowIs.of_block HRA.out (Bw2.block _ hyw)
  have hLA : Laid3 w2 := HT.out.below Bw2 HT.out.size
  have Bw := Bw2.mono (Nat.le_of_lt hyw)
  have NY2 : Hid (y ≠ b_t2) := Lib.hid (Nat.ne_of_lt (Nat.lt_of_lt_of_le hyw l_t2))
  have NY3 : Hid (y ≠ b_t3) := Lib.hid (Nat.ne_of_lt (Nat.lt_of_lt_of_le hyw l_t3))
  have LY2 : Hid (y ≤ b_t2) := Lib.hid (Nat.le_trans (Nat.le_of_lt hyw) l_t2)
  have LY3 : Hid (y ≤ b_t3) := Lib.hid (Nat.le_trans (Nat.le_of_lt hyw) l_t3)
  clear hyw Bw2 HRA HT l_t2 l_t3 HGS
  go_loopw [4, 7] (fun kv iv wr => ∃ (i k : Nat) (H : Nat → Nat), Hid (uR (allP b) (fun _ => 0) i = (k, H)) ∧ k < 256 ∧ i ≤ 65536 ∧ kv = .int .i64 (k : Int) ∧ iv = .int .i64 (i : Int) ∧ wr.rowIs b_t2 34 256 (pyF fun _ => 0) ∧ wr.rowIs b_t3 34 256 (pyF H) ∧ ReaderAt wr y b (3 * i) ∧ Laid3 wr ∧ y ≤ wr.heap.size ∧ Below y w wr) (fun _ iv _ => 65536 - (intOf iv).toNat)
  case atStart => exact ⟨0, 0, fun _ => 0, Lib.hid rfl, by decide, by decide, rfl, rfl, r_t2, r_t3, hRA, hLA, Nat.le_of_lt (Nat.lt_of_lt_of_le HYW.out Bw.size), Bw⟩
  case round =>
    clear r_t2 r_t3 hRA hLA Bw
    obtain ⟨i, k, H, HU, hk, hi, rfl, rfl, r_t2, r_t3, hRA, hLA, hys, Bw⟩ := hrel
    by_cases hlt : i < 65536
    · have hiI : (i : Int) < 65536 := by omega
      have HIL := Lib.hid hlt
      have HRD := Lib.hid fun w h1 h2 h3 => rread_in y b (3 * i) 3 w h1 h2 h3 (by decide) (by decide)
      obtain ⟨PL, hPL⟩ : ∃ L, L = pieceL 168 (closedS 168 31 b) (3 * i) 3 := ⟨_, rfl⟩
      have HPL := Lib.hid hPL
      have HPN : Hid (PL.length = 3) := Lib.hid (by rw [hPL]; exact pieceL_length _ _ _ _)
      have HPR := Lib.hid fun v w h => pair_any v PL w h HPN.out
      obtain ⟨pn, hpn⟩ : ∃ f, f = pairN PL := ⟨_, rfl⟩
      rw [← hpn] at HPR
      have HPF := Lib.hid hpn
      have HYS := Lib.hid hys
      have HK0 := Lib.hid hk
      clear hPL hpn hys hk hi
      go_wp2_with (first
        | (have hgo := HRD; clear hgo
           go_at_call 55
           refine (HRD.out _ hLA hRA HY.out).mono ?_
           rintro e w5 ⟨v_c, rfl, f_c, hRA2, g5⟩
           replace r_t2 := gb_rowIs r_t2 g5 (Ne.symm NY2.out)
           replace r_t3 := gb_rowIs r_t3 g5 (Ne.symm NY3.out)
           replace hLA := hLA.grown g5 HY.out
           have Bw1 := Bw.grown g5 HYS.out (by intro k hk; cases hk; exact Nat.le_refl _)
           have hys1 := Nat.le_trans HYS.out g5.size
           replace f_c : Bs w5 v_c PL := by rw [HPL.out]; exact f_c
           replace hRA2 : ReaderAt w5 y b (3 * i + 3) := hRA2
           clear Bw g5 hRA HRD)
        | (have hgo := f_c; clear hgo
           go_at_call 61
           refine (HPR.out _ _ f_c).mono ?_
           rintro e w6 ⟨rfl, kk⟩
           replace r_t2 := zrb r_t2 kk
           replace r_t3 := zrb r_t3 kk
           replace hRA2 := hRA2.below kk
           replace hLA := hLA.below kk hLA.size
           have Bw2 := Bw1.trans (kk.mono hys1)
           have hys2 := Nat.le_trans hys1 kk.size
           clear Bw1 hys1 kk f_c HPR))
      go_loopw [4, 12] (fun kv jv wr => ∃ (j k2 : Nat) (H2 : Nat → Nat), Hid (uP PL (k, H) j = (k2, H2)) ∧ k2 < 256 ∧ j ≤ 2 ∧ kv = .int .i64 (k2 : Int) ∧ jv = .int .i64 (j : Int) ∧ wr.rowIs b_t2 34 256 (pyF fun _ => 0) ∧ wr.rowIs b_t3 34 256 (pyF H2) ∧ ReaderAt wr y b (3 * i + 3) ∧ Laid3 wr ∧ y ≤ wr.heap.size ∧ Below y w wr) (fun _ jv _ => 2 - (intOf jv).toNat)
      case atStart => exact ⟨0, k, H, Lib.hid rfl, HK0.out, by decide, rfl, rfl, r_t2, r_t3, hRA2, hLA, hys2, Bw2⟩
      case round =>
        clear r_t2 r_t3 hRA2 hLA hys2 Bw2
        obtain ⟨j, k2, H2, HU2, hk2, hj, rfl, rfl, r_t2, r_t3, hRA, hLA, hys, Bw⟩ := hrel
        by_cases hlj : j < 2
        · have hjI : 0 ≤ (j : Int) ∧ (j : Int) < 2 := by omega
          have HJL := Lib.hid hlj
          obtain ⟨x, hx⟩ := nat_var (pn j)
          have HX := Lib.hid hx.symm
          obtain ⟨k3, hk3⟩ := nat_var (k2 + 1)
          have hwk3 : IntKind.i64.wrap ((k2 : Int) + 1) = (k3 : Int) := by rw [IntWalk.i64_in _ (by omega)]; omega
          have hkI : 0 ≤ (k2 : Int) ∧ (k2 : Int) < 256 := by omega
          have HKL := Lib.hid hk2
          have HNX : Hid (uP PL (k, H) (j + 1) = uOne x (k2, H2)) := Lib.hid (by
            show uOne (pairN PL j) (uP PL (k, H) j) = _
            rw [HU2.out, ← HPF.out, hx])
          have HYS2 := Lib.hid hys
          have HK3 := Lib.hid hk3
          have HJ2 : Hid (j + 1 ≤ 2) := Lib.hid (by omega)
          clear hx hys hj hiI
          by_cases hx3 : x < 3329
          · have hxI : (x : Int) < 3329 := by omega
            have e1 : uP PL (k, H) (j + 1) = (k3, updN H2 k2 x) := by rw [HNX.out, HK3.out]; exact if_pos ⟨hx3, hk2⟩
            have HE := Lib.hid e1
            clear e1
            by_cases hk4 : k3 = 256
            · have hk4I : (k3 : Int) = 256 := by omega
              have HR2 : Hid (RES = updN H2 k2 x) := Lib.hid (by
                rw [HRES.out]
                refine uP_end b i j N HN.out HIL.out HJL.out HU.out ?_
                rw [← HPL.out, HE.out, hk4])
              obtain ⟨G, hG⟩ : ∃ G, G = updN H2 k2 x := ⟨_, rfl⟩
              have HGG : Hid (∀ m, m < 256 → G m = if m = k2 then x else H2 m) := Lib.hid fun m _ => by rw [hG]; rfl
              have hRG : RES = G := by rw [HR2.out, hG]
              subst hRG
              clear hk3 hk4 hG HR2 HE HNX
              go_wp2_with (first
                | refine wpList_index_2 rfl (.tmp 11) (.tmp 12) rfl HJL.out rfl rfl HX.out ?_
                | (have hgo := HGG; clear hgo
                   refine wpList_store_py rfl (.tmp 19) (.tmp 18) rfl RES r_t3 HKL.out rfl rfl HGG.out ?_
                   intro w7 q7 g7
                   replace r_t2 := gb_rowIs r_t2 g7 n_t2_t3
                   have Bw3 := Bw.grown g7 HYS2.out (by intro k hk; cases hk; exact LY3.out)
                   have hys3 := Nat.le_trans HYS2.out g7.size
                   clear Bw g7 r_t3 HGG)
                | (refine wpList_load_as rfl 34 (.tmp 3) rfl 256 (pyF RES) arrP q7 rfl (by omega) (fun i hi => by rw [Nat.zero_add]) ?_)
                | (have hgo := Bw3; clear hgo
                   refine wpList_store_as rfl 34 (.tmp 2) (.tmp 24) rfl 256 (pyF RES) arrP r_t2 rfl rfl (by omega) (fun _ _ => rfl) (fun i hi => putN_whole hi) ?_
                   intro w9 q9 g9
                   have Bw9 := Bw3.grown g9 hys3 (by intro k hk; cases hk; exact LY2.out)
                   clear Bw3 g9 r_t2))
              exact ret_cell_as _ rfl arrP q9 rfl (by omega) (fun _ _ => rfl) rfl ⟨rfl, Bw9⟩
            · have hk4I : ¬ (k3 : Int) = 256 := by omega
              have HK4 : Hid (k3 < 256) := Lib.hid (by omega)
              have HGG : Hid (∀ m, m < 256 → updN H2 k2 x m = if m = k2 then x else H2 m) := Lib.hid fun m _ => rfl
              clear hk3 hk4 HNX hk2 hx3 hlj
              go_wp2_with (first
                | refine wpList_index_2 rfl (.tmp 11) (.tmp 12) rfl HJL.out rfl rfl HX.out ?_
                | (have hgo := HGG; clear hgo
                   refine wpList_store_py rfl (.tmp 19) (.tmp 18) rfl (updN H2 k2 x) r_t3 HKL.out rfl rfl HGG.out ?_
                   intro w7 q7 g7
                   replace r_t2 := gb_rowIs r_t2 g7 n_t2_t3
                   replace hRA := hRA.other g7 NY3.out
                   replace hLA := hLA.grown g7 (Nat.le_trans HY.out LY3.out)
                   have Bw3 := Bw.grown g7 HYS2.out (by intro k hk; cases hk; exact LY3.out)
                   have hys3 := Nat.le_trans HYS2.out g7.size
                   clear Bw g7 r_t3 HGG))
              go_roundw
              case rel => exact ⟨j + 1, k3, updN H2 k2 x, HE, HK4.out, HJ2.out, rfl, by go_num, r_t2, q7, hRA, hLA, hys3, Bw3⟩
              case measure => (have := HJL.out; simp [intOf]; try omega)
          · have hxI : ¬ (x : Int) < 3329 := by omega
            have HE : Hid (uP PL (k, H) (j + 1) = (k2, H2)) := Lib.hid (by rw [HNX.out]; exact if_neg (fun h => hx3 h.1))
            have hkJ : ¬ (k2 : Int) = 256 := by omega
            clear HNX hk3 hkI hwk3 hk2 hx3 hlj
            go_wp2_with (first
              | refine wpList_index_2 rfl (.tmp 11) (.tmp 12) rfl HJL.out rfl rfl HX.out ?_)
            go_roundw
            case rel => exact ⟨j + 1, k2, H2, HE, HKL.out, HJ2.out, rfl, by go_num, r_t2, r_t3, hRA, hLA, HYS2.out, Bw⟩
            case measure => (have := HJL.out; simp [intOf]; try omega)
        · obtain rfl : j = 2 := by omega
          have HE : Hid (uR (allP b) (fun _ => 0) (i + 1) = (k2, H2)) := Lib.hid (by rw [← uP_two b i HIL.out HU.out, ← HPL.out]; exact HU2.out)
          have HKL := Lib.hid hk2
          have HI1 : Hid (i + 1 ≤ 65536) := HIL
          have HRR : Hid (ReaderAt wr y b (3 * (i + 1))) := Lib.hid hRA
          have HYS2 := Lib.hid hys
          clear hRA hys hk2 HU2 hj
          go_wp2
          go_roundw
          case rel => exact ⟨i + 1, k2, H2, HE, HKL.out, HI1.out, rfl, by go_num, r_t2, r_t3, HRR.out, hLA, HYS2.out, Bw⟩
          case measure => (have := HIL.out; simp [intOf]; try omega)
    · have hiN : i = N := by rw [HN.out]; omega
      have hiI : ¬ (i : Int) < 65536 := by omega
      have hRH : RES = H := by rw [HRES.out, ← hiN]; unfold lastU; rw [HU.out]
      subst hRH
      clear hiN HU hi hk
      have HYS := Lib.hid hys
      clear hys hRA hLA
      go_wp2_with (first
        | (refine wpList_load_as rfl 34 (.tmp 3) rfl 256 (pyF RES) arrP r_t3 rfl (by omega) (fun i hi => by rw [Nat.zero_add]) ?_)
        | (have hgo := Bw; clear hgo
           refine wpList_store_as rfl 34 (.tmp 2) (.tmp 27) rfl 256 (pyF RES) arrP r_t2 rfl rfl (by omega) (fun _ _ => rfl) (fun i hi => putN_whole hi) ?_
           intro w9 q9 g9
           have Bw9 := Bw.grown g9 HYS.out (by intro k hk; cases hk; exact LY2.out)
           clear Bw g9 r_t2))
      exact ret_cell_as _ rfl arrP q9 rfl (by omega) (fun _ _ => rfl) rfl ⟨rfl, Bw9⟩
set_option maxHeartbeats 4000000 in
set_option maxRecDepth 200000 in
theorem pUniform_any (v0 : Value) (l0 : List UInt8) (m n : UInt8) (w : World) (hL : Laid3 w) (h0 : Bs w v0 l0) : Calls Tryd.prog 36 #[v0, .int .u8 ((m.toNat : Nat) : Int), .int .u8 ((n.toNat : Nat) : Int)] w fun e w' => e = .returned (.agg (arrOf 256 (pyF (puN [l0, [m, n]].flatten)))) ∧ Below w.heap.size w w' := by
  have Bw0 := Below.refl w.heap.size w
  have HGS : Hid (∀ wq : World, Below w.heap.size w wq → w.heap.size ≤ wq.heap.size) := Lib.hid fun wq h => h.size
  have f_s0 := h0
  have HF_s0 := Lib.hid h0
  have HT := Lib.hid hL
  clear h0 hL
  go_enter Tryd.func36, Tryd.ntmps36
  go_wp2_with (first
    | (have hgo := Bw0; clear hgo
       refine wpList_alloc_row rfl 34 rfl 256 (pyF fun _ => 0) zeroP ?_
       intro b_t6 w1 lk r_t6 kk
       have l_t6 := zrl HGS Bw0 lk
       have a_s0_t6 := Bs.away f_s0 lk
       replace f_s0 := zfb f_s0 kk
       have Bw1 := zbt HGS Bw0 kk
       clear Bw0 kk lk)
    | (have hgo := Bw1; clear hgo
       refine wpList_twoB rfl (.tmp 8) (.tmp 9) rfl m n rfl rfl ?_
       intro v_s10 w5 f_s10 kk
       replace r_t6 := zrb r_t6 kk
       replace f_s0 := zfb f_s0 kk
       have Bw2 := zbt HGS Bw1 kk
       clear Bw1 kk)
    | (have hgo := Bw2; clear hgo
       refine wpList_rows2 rfl (.tmp 7) (.tmp 10) rfl f_s0 f_s10 rfl rfl ?_
       intro v_r11 w6 F_r11 kk
       replace r_t6 := zrb r_t6 kk
       replace f_s0 := zfb f_s0 kk
       replace f_s10 := zfb f_s10 kk
       have Bw3 := zbt HGS Bw2 kk
       clear Bw2 kk)
    | (have hgo := Bw3; clear hgo
       go_at_call 54
       refine (newReader_any _ [l0, [m, n]] _ (HT.out.below Bw3 HT.out.size) F_r11).mono ?_
       rintro e w12 ⟨y, rfl, hy, hR, kk⟩
       have n_y := zrl HGS Bw3 hy
       have l6 := Nat.lt_of_lt_of_le (World.rowIs.lt r_t6) hy
       replace r_t6 := zrb r_t6 kk
       replace Bw3 := zbt HGS Bw3 kk
       clear kk hy F_r11 f_s0 f_s10
       have Bw4 := Bw3
       clear Bw3)
    | (have hgo := Bw4; clear hgo
       go_at_call 53
       refine (filled_any y _ _ (HT.out.below Bw4 HT.out.size) hR (Nat.le_trans HT.out.size n_y)).mono ?_
       rintro e w14 ⟨rfl, kk⟩
       replace r_t6 := World.rowIs.of_block r_t6 (kk.block _ l6)
       replace Bw4 := Bw4.trans (kk.mono n_y)
       clear kk hR
       have Bw5 := Bw4
       clear Bw4)
    | (have hgo := Bw5; clear hgo
       refine wpList_store_as rfl 34 (.tmp 6) (.tmp 14) rfl 256 (pyF (puN [l0, [m, n]].flatten)) arrP r_t6 rfl rfl (by omega) (fun _ _ => rfl) (fun i hi => putN_whole hi) ?_
       intro w10 q gk
       replace r_t6 := q
       have Bw6 := zbg HGS Bw5 gk l_t6
       clear Bw5 gk q))
  exact ret_cell_as _ rfl arrP r_t6 rfl (by omega) (fun _ _ => rfl) rfl ⟨rfl, Bw6⟩
end Go.Proofs.YtflblaccfiigfabDoor

/- A region that draws, of readers and of calls that leave the world as it is, then stores into one row: its readers are read in the one world that stands as long as the first store has not come up. -/
set_option linter.unusedSimpArgs false
set_option linter.unusedVariables false
namespace Go.Proofs.YtflblaccfiigfabDoor
open Go.RowKit Go.Deep
section
variable {P : Program} {ops : Array Oper} {Q : Exit → Act → World → Prop} {r : List (Nat × Option (List Nat))} {a : Act} {w : World} {o : Oper} {i : Nat}

/-- What holds ahead of a writer: the world is as it was, but for the writer L. -/
def EqU (L : Nat) (w : World) : Nat → World → Prop := fun c w' => c ≠ L → w' = w
def Any : Nat → World → Prop := fun _ _ => True
theorem le_start {id : Nat} (r : List (Nat × Option (List Nat))) (L : Nat) (hm : P.follows .mixedOrders = true) (hs : Region.noSelect ops = true) (hl : r.length ≤ ops.size)
    (hk : linsOk ops r (Array.replicate ops.size false) = true) (hQ : ∀ d v c a w, Q (.panic c) (Act.put a d v) w → Q (.panic c) a w)
    (h : LinS P ops Q r (EqU L w.drew) a w.drew) : (Code.region id ops true).wp P Q a w :=
  wp_region_lins r (EqU L w.drew) hm hs hl hk hQ (fun _ _ _ => rfl) h
theorem le_rd {c L : Nat} {C : List Nat} {op : Op} {t : TypeId} (d : Nat) (v : Value) (hc : Nat.beq c L = false) (ho : ops[i]? = some o) (hd : o.dst = some d) (hop : o.op = op) (ht : o.type = t) (hw : Region.wanted o (yielded ops a.tmps) = true)
    (hy : (execOp a.eval (mkOp op t)).run P w = .ok (.value v) w) (h : LinS P ops Q r (EqU L w) (a.put (some d) v) w) : LinS P ops Q ((i, some (c :: C)) :: r) (EqU L w) a w :=
  lins_read d op t v ho hd hop ht hw (fun w' hw' => by rw [hw' c List.mem_cons_self (Nat.ne_of_beq_eq_false hc)]; exact hy) h
/-- What no world matters to. -/
theorem le_rdA {C : List Nat} {R : Nat → World → Prop} {op : Op} {t : TypeId} (d : Nat) (v : Value) (ho : ops[i]? = some o) (hd : o.dst = some d) (hop : o.op = op) (ht : o.type = t) (hw : Region.wanted o (yielded ops a.tmps) = true)
    (hy : ∀ w, (execOp a.eval (mkOp op t)).run P w = .ok (.value v) w) (h : LinS P ops Q r R (a.put (some d) v) w) : LinS P ops Q ((i, some C) :: r) R a w :=
  lins_read d op t v ho hd hop ht hw (fun w' _ => hy w') h
theorem le_call {L : Nat} {fn : Func} {f : Nat} {xs : Array Operand} {ts : Array TypeId} {args : Array Value} {v : Value} (d : Nat) (hcon : ∀ w, Calls P f args w fun e w' => e = .returned v ∧ w' = w)
    (ho : ops[i]? = some o) (hd : o.dst = some d) (hop : o.op = .call { callee := .value (.func f), args := xs, argTypes := ts })
    (hw : Region.wanted o (yielded ops a.tmps) = true) (hf : P.funcs[f]? = some fn) (hn : (fn.name == "runtime.NumGoroutine") = false) (hb : fn.body.isNone = false) (hargs : xs.map a.eval = args)
    (h : LinS P ops Q r (EqU L w) (a.put (some d) v) w) : LinS P ops Q ((i, none) :: r) (EqU L w) a w :=
  lins_fn (some d) f xs ts args (hcon w) ho hd hop hw hf hn hb hargs fun e w' hT => by
    obtain ⟨rfl, rfl⟩ := hT
    exact ⟨v, rfl, EqU L w', fun c _ => ⟨fun _ => rfl, fun _ h => h⟩, h⟩
end
section
variable {ops : Array Oper} {Q : Exit → Act → World → Prop} {r : List (Nat × Option (List Nat))} {a : Act} {w : World} {o : Oper} {i : Nat}
/-- A store of a number into a row of numbers of 16 digits: behind it only what no world matters to is read. -/
theorem le_store {L b j z : Nat} {t ty : TypeId} {f : Nat → Nat} {x y : Operand} (g : Nat → Nat) (hL : (writers r).all (fun c => c == L) = true) (ho : ops[i]? = some o) (hd : o.dst = none) (hop : o.op = .store 32 x y) (ht : o.type = t)
    (hw : Region.wanted o (yielded ops a.tmps) = true) (hr : w.rowIs b ty 256 (pyF f)) (hj : j < 256) (hx : a.eval x = .pointer (some ⟨b, j, none⟩)) (hy : a.eval y = .int .u16 (z : Int)) (hg : ∀ k, k < 256 → g k = if k = j then z else f k)
    (h : ∀ w', w'.rowIs b ty 256 (pyF g) → w.grownBy w' (some b) → LinS Tryd.prog ops Q r Any a w') : LinS Tryd.prog ops Q ((i, none) :: r) (EqU L w) a w :=
  lins_store (.store 32 x y) t _ ho hd hop ht hw (exec_store_cell a.eval 32 x y t hr hx hy (by kernel_rfl) rfl rfl hj) Any
    (fun c hc => ⟨trivial, fun _ _ hne => absurd (by simpa using List.all_eq_true.1 hL c hc) hne⟩) (h _ (pyF_set hr j z hg) (grownBy_set _ _ _ _))
theorem le_storeA {b j z : Nat} {t ty : TypeId} {f : Nat → Nat} {x y : Operand} (g : Nat → Nat) (ho : ops[i]? = some o) (hd : o.dst = none) (hop : o.op = .store 32 x y) (ht : o.type = t)
    (hw : Region.wanted o (yielded ops a.tmps) = true) (hr : w.rowIs b ty 256 (pyF f)) (hj : j < 256) (hx : a.eval x = .pointer (some ⟨b, j, none⟩)) (hy : a.eval y = .int .u16 (z : Int)) (hg : ∀ k, k < 256 → g k = if k = j then z else f k)
    (h : ∀ w', w'.rowIs b ty 256 (pyF g) → w.grownBy w' (some b) → LinS Tryd.prog ops Q r Any a w') : LinS Tryd.prog ops Q ((i, none) :: r) Any a w :=
  lins_store (.store 32 x y) t _ ho hd hop ht hw (exec_store_cell a.eval 32 x y t hr hx hy (by kernel_rfl) rfl rfl hj) Any
    (fun c hc => ⟨trivial, fun _ h => h⟩) (h _ (pyF_set hr j z hg) (grownBy_set _ _ _ _))
theorem le_end {R : Nat → World → Prop} (h : Q .normal a w) : LinS Tryd.prog ops Q [] R a w := h
theorem x_nil {ρ : Operand → Value} {x : Operand} {t : TypeId} {ad : Addr} (h : ρ x = .pointer (some ad)) (w : World) : (execOp ρ (mkOp (.nilCheck x) t)).run Tryd.prog w = .ok (.value (.pointer (some ad))) w := by
  simp only [execOp, mkOp, h]
  go_simp
theorem x_ia {ρ : Operand → Value} {x y : Operand} {t : TypeId} {b i : Nat} (hx : ρ x = .pointer (some ⟨b, 0, none⟩)) (hy : ρ y = .int .i64 (i : Int)) (hi : i < 256) (w : World) :
    (execOp ρ (mkOp (.indexAddr 34 x y) t)).run Tryd.prog w = .ok (.value (.pointer (some ⟨b, i, none⟩))) w := by
  have h1 : 0 ≤ (i : Int) ∧ (i : Int) < 256 := by omega
  simp only [execOp, mkOp, hx, hy]
  go_simp
theorem x_add {ρ : Operand → Value} {x y : Operand} {t : TypeId} {i j k : Nat} (hx : ρ x = .int .i64 (i : Int)) (hy : ρ y = .int .i64 (j : Int)) (hk : IntKind.i64.wrap ((i : Int) + (j : Int)) = (k : Int)) (w : World) :
    (execOp ρ (mkOp (.binOp .add 3 x y 3) t)).run Tryd.prog w = .ok (.value (.int .i64 (k : Int))) w := by
  simp only [execOp, mkOp, hx, hy]
  go_simp
theorem x_ld {ρ : Operand → Value} {x : Operand} {t ty : TypeId} {b j z : Nat} {f : Nat → Nat} {w : World} (hx : ρ x = .pointer (some ⟨b, j, none⟩)) (hr : w.rowIs b ty 256 (pyF f)) (hj : j < 256) (hz : f j = z) :
    (execOp ρ (mkOp (.load 32 x) t)).run Tryd.prog w = .ok (.value (.int .u16 (z : Int))) w := exec_load_cell ρ 32 x t hx (by kernel_rfl) (pyF_cell hr j hj hz)
end
end Go.Proofs.YtflblaccfiigfabDoor

/- The document's polynomials: the transform. -/
namespace Go.Proofs.YtflblaccfiigfabDoor
open Go.RowKit Go.Deep
set_option linter.unusedSimpArgs false
set_option linter.unusedVariables false

def Zv (k : Nat) : Nat := 17 ^ rev7 k % 3329
/-- A layer, in numbers. -/
def layV (n : Nat) (F : Nat → Nat) (i : Nat) : Nat :=
  if i % (2 * n) < n then (F i % 3329 + Zv (128 / n + i / (2 * n)) * F (i + n) % 3329) % 3329 else (F (i - n) % 3329 + 3329 - Zv (128 / n + i / (2 * n)) * F i % 3329) % 3329
theorem layV_lo (n s r : Nat) (hr : r < n) (F : Nat → Nat) : layV n F (s * (2 * n) + r) = (F (s * (2 * n) + r) % 3329 + Zv (128 / n + s) * F (s * (2 * n) + r + n) % 3329) % 3329 := by
  have d1 : (s * (2 * n) + r) % (2 * n) = r := by rw [Nat.mul_add_mod_self_right, Nat.mod_eq_of_lt (by omega)]
  have q1 : (s * (2 * n) + r) / (2 * n) = s := by rw [Nat.mul_comm, Nat.mul_add_div (by omega), Nat.div_eq_of_lt (by omega)]; omega
  rw [layV, d1, q1, if_pos hr]
theorem layV_hi (n s r : Nat) (hr : r < n) (F : Nat → Nat) : layV n F (s * (2 * n) + r + n) = (F (s * (2 * n) + r) % 3329 + 3329 - Zv (128 / n + s) * F (s * (2 * n) + r + n) % 3329) % 3329 := by
  have d2 : (s * (2 * n) + r + n) % (2 * n) = r + n := by rw [Nat.add_assoc, Nat.mul_add_mod_self_right, Nat.mod_eq_of_lt (by omega)]
  have q2 : (s * (2 * n) + r + n) / (2 * n) = s := by rw [Nat.add_assoc, Nat.mul_comm, Nat.mul_add_div (by omega), Nat.div_eq_of_lt (by omega)]; omega
  rw [layV, d2, q2, if_neg (by omega), Nat.add_sub_cancel]
theorem layV_lt (n : Nat) (F : Nat → Nat) (i : Nat) : layV n F i < 3329 := by
  unfold layV
  split <;> exact Nat.mod_lt _ (by decide)
/-- As many layers. -/
def stg (f : Nat → Nat) : Nat → Nat → Nat
  | 0 => f
  | m + 1 => layV (128 / 2 ^ m) (stg f m)
def nttN (f : Nat → Nat) : Nat → Nat := stg f 7
theorem stg_lt {f : Nat → Nat} (hf : ∀ i, f i < 65536) : ∀ m i, stg f m i < 65536
  | 0, i => hf i
  | m + 1, i => Nat.lt_trans (layV_lt _ _ i) (by decide)
theorem nttN_lt (f : Nat → Nat) (i : Nat) : nttN f i < 3329 := layV_lt _ _ i
/-- Some places of the one, the others of the other. -/
def mix (F G : Nat → Nat) (n B r i : Nat) : Nat := if i < B + r ∨ (B + n ≤ i ∧ i < B + n + r) then G i else F i
theorem mix_yes {F G : Nat → Nat} {n B r i : Nat} (h : i < B + r ∨ (B + n ≤ i ∧ i < B + n + r)) : mix F G n B r i = G i := if_pos h
theorem mix_no {F G : Nat → Nat} {n B r i : Nat} (h : ¬ (i < B + r ∨ (B + n ≤ i ∧ i < B + n + r))) : mix F G n B r i = F i := if_neg h
theorem two_step (n : Nat) (m M : Nat) (hM : M = 2 ^ m) (h : M * n = 128) (h2 : 2 ≤ n) : m < 7 ∧ n = 2 * (n / 2) ∧ M ≤ 64 ∧ 1 ≤ M ∧ n ≤ 128 := by
  have hm : m < 7 := by
    rcases Nat.lt_or_ge m 7 with h7 | h7
    · exact h7
    · have h3 : 2 ^ 7 ≤ 2 ^ m := Nat.pow_le_pow_right (by decide) h7
      rw [← hM] at h3
      have h4 : 2 ^ 7 * 2 ≤ M * n := Nat.mul_le_mul h3 h2
      omega
  rcases (show m = 0 ∨ m = 1 ∨ m = 2 ∨ m = 3 ∨ m = 4 ∨ m = 5 ∨ m = 6 by omega) with rfl | rfl | rfl | rfl | rfl | rfl | rfl <;> (simp only [Nat.reducePow] at hM; subst hM; omega)
theorem two_end (n m M : Nat) (hM : M = 2 ^ m) (hm : m ≤ 7) (h : M * n = 128) (h2 : ¬ 2 ≤ n) : m = 7 := by
  rcases (show m = 0 ∨ m = 1 ∨ m = 2 ∨ m = 3 ∨ m = 4 ∨ m = 5 ∨ m = 6 ∨ m = 7 by omega) with rfl | rfl | rfl | rfl | rfl | rfl | rfl | rfl <;> (simp only [Nat.reducePow] at hM; subst hM; omega)
theorem cut_lt {s M n : Nat} (h : M * n = 128) (hs : s < M) : s * (2 * n) + 2 * n ≤ 256 := by
  have h1 : (s + 1) * (2 * n) ≤ M * (2 * n) := Nat.mul_le_mul_right _ hs
  have h2 : M * (2 * n) = 256 := by rw [Nat.mul_left_comm, h]
  rw [Nat.add_mul, Nat.one_mul, h2] at h1
  exact h1
theorem cut_ge {s M n B : Nat} (h : M * n = 128) (hB : B = s * (2 * n)) (hs : s ≤ M) (h2 : ¬ B < 256) : s = M ∧ B = 256 := by
  rcases Nat.lt_or_ge s M with h3 | h3
  · have h5 : 0 < n := by
      rcases Nat.eq_zero_or_pos n with rfl | h6
      · omega
      · exact h6
    have := cut_lt h h3
    omega
  · obtain rfl : s = M := by omega
    rw [Nat.mul_left_comm, h] at hB
    exact ⟨rfl, hB⟩
end Go.Proofs.YtflblaccfiigfabDoor

/- The document's polynomials: the way back of the transform. -/
namespace Go.Proofs.YtflblaccfiigfabDoor
open Go.RowKit Go.Deep
set_option linter.unusedSimpArgs false
set_option linter.unusedVariables false

def ilyV (n : Nat) (F : Nat → Nat) (i : Nat) : Nat :=
  if i % (2 * n) < n then (F i % 3329 + F (i + n) % 3329) % 3329 else Zv (256 / n - 1 - i / (2 * n)) * (F i % 3329 + 3329 - F (i - n) % 3329) % 3329
theorem ilyV_lo (n s r : Nat) (hr : r < n) (F : Nat → Nat) : ilyV n F (s * (2 * n) + r) = (F (s * (2 * n) + r) % 3329 + F (s * (2 * n) + r + n) % 3329) % 3329 := by
  have d1 : (s * (2 * n) + r) % (2 * n) = r := by rw [Nat.mul_add_mod_self_right, Nat.mod_eq_of_lt (by omega)]
  rw [ilyV, d1, if_pos hr]
theorem ilyV_hi (n s r : Nat) (hr : r < n) (F : Nat → Nat) : ilyV n F (s * (2 * n) + r + n) = Zv (256 / n - 1 - s) * (F (s * (2 * n) + r + n) % 3329 + 3329 - F (s * (2 * n) + r) % 3329) % 3329 := by
  have d2 : (s * (2 * n) + r + n) % (2 * n) = r + n := by rw [Nat.add_assoc, Nat.mul_add_mod_self_right, Nat.mod_eq_of_lt (by omega)]
  have q2 : (s * (2 * n) + r + n) / (2 * n) = s := by rw [Nat.add_assoc, Nat.mul_comm, Nat.mul_add_div (by omega), Nat.div_eq_of_lt (by omega)]; omega
  rw [ilyV, d2, q2, if_neg (by omega), Nat.add_sub_cancel]
theorem ilyV_lt (n : Nat) (F : Nat → Nat) (i : Nat) : ilyV n F i < 3329 := by
  unfold ilyV
  split <;> exact Nat.mod_lt _ (by decide)
def istg (f : Nat → Nat) : Nat → Nat → Nat
  | 0 => f
  | m + 1 => ilyV (2 ^ (m + 1)) (istg f m)
def invN (f : Nat → Nat) (i : Nat) : Nat := istg f 7 i * 3303 % 3329
theorem istg_lt {f : Nat → Nat} (hf : ∀ i, f i < 65536) : ∀ m i, istg f m i < 65536
  | 0, i => hf i
  | m + 1, i => Nat.lt_trans (ilyV_lt _ _ i) (by decide)
theorem invN_lt (f : Nat → Nat) (i : Nat) : invN f i < 3329 := Nat.mod_lt _ (by decide)
theorem inv_m (n m K : Nat) (hn : n = 2 ^ (m + 1)) (hm : m ≤ 7) (h : n * (K + 1) = 256) (h2 : n ≤ 128) : m < 7 ∧ 2 ≤ n ∧ ∃ M, M * n = 128 ∧ K + 1 = 2 * M ∧ M ≤ 64 ∧ 1 ≤ M ∧ 256 / n = 2 * M := by
  rcases (show m = 0 ∨ m = 1 ∨ m = 2 ∨ m = 3 ∨ m = 4 ∨ m = 5 ∨ m = 6 ∨ m = 7 by omega) with rfl | rfl | rfl | rfl | rfl | rfl | rfl | rfl <;> (simp only [Nat.reduceAdd, Nat.reducePow] at hn; subst hn)
  · exact ⟨by decide, by decide, 64, by decide, by omega, by decide, by decide, by decide⟩
  · exact ⟨by decide, by decide, 32, by decide, by omega, by decide, by decide, by decide⟩
  · exact ⟨by decide, by decide, 16, by decide, by omega, by decide, by decide, by decide⟩
  · exact ⟨by decide, by decide, 8, by decide, by omega, by decide, by decide, by decide⟩
  · exact ⟨by decide, by decide, 4, by decide, by omega, by decide, by decide, by decide⟩
  · exact ⟨by decide, by decide, 2, by decide, by omega, by decide, by decide, by decide⟩
  · exact ⟨by decide, by decide, 1, by decide, by omega, by decide, by decide, by decide⟩
  · omega
theorem inv_end (n m : Nat) (hn : n = 2 ^ (m + 1)) (hm : m ≤ 7) (h2 : ¬ n ≤ 128) : m = 7 := by
  rcases (show m = 0 ∨ m = 1 ∨ m = 2 ∨ m = 3 ∨ m = 4 ∨ m = 5 ∨ m = 6 ∨ m = 7 by omega) with rfl | rfl | rfl | rfl | rfl | rfl | rfl | rfl <;> (simp only [Nat.reduceAdd, Nat.reducePow] at hn; subst hn; omega)
end Go.Proofs.YtflblaccfiigfabDoor

/- The program's polynomials: split and join: 2 n numbers of a layer. -/
namespace Go.Proofs.YtflblaccfiigfabDoor
open Go.RowKit Go.Deep
set_option linter.unusedSimpArgs false
set_option linter.unusedVariables false

/-- What split makes of the numbers from B on. -/
def splV (F : Nat → Nat) (B n z k : Nat) : Nat := if k < B then F k else if k < B + n then (F k + F (k + n) * z % 3329) % 3329 else (F (k - n) + (3329 - F k * z % 3329 % 3329)) % 3329
/-- What join makes of them. -/
def joiV (F : Nat → Nat) (B n z k : Nat) : Nat := if k < B then F k else if k < B + n then (F k + F (k + n)) % 3329 else (F k + (3329 - F (k - n) % 3329)) % 3329 * z % 3329
theorem splV_start (F : Nat → Nat) (B n z k : Nat) : mix F (splV F B n z) n B 0 k = F k := by
  unfold mix splV
  split
  · rw [if_pos (by omega)]
  · rfl
theorem joiV_start (F : Nat → Nat) (B n z k : Nat) : mix F (joiV F B n z) n B 0 k = F k := by
  unfold mix joiV
  split
  · rw [if_pos (by omega)]
  · rfl
theorem mix_next {F G : Nat → Nat} {n B r J jn l h : Nat} (hJ : J = B + r) (hjn : jn = J + n) (hr : r < n) (hl : G J = l) (hh : G jn = h) :
    ∀ k, k < 256 → mix F G n B (r + 1) k = if k = jn then h else (fun k => if k = J then l else mix F G n B r k) k := by
  intro k _
  show mix F G n B (r + 1) k = if k = jn then h else if k = J then l else mix F G n B r k
  by_cases e2 : k = jn
  · rw [if_pos e2, e2, mix_yes (by omega), hh]
  · rw [if_neg e2]
    by_cases e1 : k = J
    · rw [if_pos e1, e1, mix_yes (by omega), hl]
    · rw [if_neg e1]
      unfold mix
      by_cases e3 : k < B + r ∨ (B + n ≤ k ∧ k < B + n + r)
      · rw [if_pos e3, if_pos (by omega)]
      · rw [if_neg e3, if_neg (by omega)]
set_option maxHeartbeats 4000000 in
set_option maxRecDepth 20000 in
theorem split_any (F : Nat → Nat) (b B n z : Nat) (w : World) (hF : ∀ i, F i < 65536) (hz : z < 65536) (hn : B + 2 * n ≤ 256) (hr : w.rowIs b 34 256 (pyF F)) : Calls Tryd.prog 34 #[.pointer (some ⟨b, 0, none⟩), .int .i64 (B : Int), .int .i64 (n : Int), .int .u16 (z : Int)] w fun e w' => e = .returned (.tuple #[]) ∧ w'.rowIs b 34 256 (pyF (mix F (splV F B n z) n B n)) ∧ w.grownBy w' (some b) := by
  have HF := Lib.hid hF
  have HR := Lib.hid hr
  clear hF hr
  have gB := World.grownBy.refl w (some b)
  obtain ⟨E, hE⟩ := nat_var (B + n)
  have hwE : IntKind.i64.wrap ((B : Int) + (n : Int)) = (E : Int) := by rw [IntWalk.i64_in _ (by omega)]; omega
  have HE := Lib.hid hE
  clear hE
  have r_b : w.rowIs b 34 256 (pyF (mix F (splV F B n z) n B 0)) := pyF_congr HR.out fun k _ => (splV_start F B n z k).symm
  clear HR
  go_enter Tryd.func34, Tryd.ntmps34
  go_wp2
  go_loopw [8] (fun jv wr => ∃ r J : Nat, r ≤ n ∧ Hid (J = B + r) ∧ jv = .int .i64 (J : Int) ∧ wr.rowIs b 34 256 (pyF (mix F (splV F B n z) n B r)) ∧ w.grownBy wr (some b)) (fun jv _ => B + n - (intOf jv).toNat)
  case atStart => exact ⟨0, B, Nat.zero_le _, Lib.hid rfl, rfl, r_b, gB⟩
  case round =>
    clear r_b gB
    obtain ⟨r, J, hr, HJ', rfl, r_b, gB⟩ := hrel
    have HJ := HJ'.out
    have hE := HE.out
    by_cases hrn : r < n
    · have hJI : (J : Int) < (E : Int) := by omega
      obtain ⟨jn, hjn⟩ := nat_var (J + n)
      have hJl : J < 256 := by omega
      have hjnl : jn < 256 := by omega
      have hJI2 : 0 ≤ (J : Int) ∧ (J : Int) < 256 := by omega
      have hjnI : 0 ≤ (jn : Int) ∧ (jn : Int) < 256 := by omega
      have hwjn : IntKind.i64.wrap ((J : Int) + (n : Int)) = (jn : Int) := by rw [IntWalk.i64_in _ (by omega)]; omega
      obtain ⟨x0, hx0⟩ := nat_var (F J)
      obtain ⟨x1, hx1⟩ := nat_var (F jn)
      have hx0l : x0 < 65536 := by rw [hx0]; exact HF.out J
      have hx1l : x1 < 65536 := by rw [hx1]; exact HF.out jn
      have m0 : mix F (splV F B n z) n B r J = x0 := by rw [mix_no (by omega), hx0]
      have m1 : mix F (splV F B n z) n B r jn = x1 := by rw [mix_no (by omega), hx1]
      obtain ⟨p, hp⟩ := nat_var (x1 * z % 3329)
      obtain ⟨l, hl⟩ := nat_var ((x0 + p) % 3329)
      obtain ⟨h, hh⟩ := nat_var ((x0 + (3329 - p % 3329)) % 3329)
      have hpl : p < 65536 := by omega
      have HP := Lib.hid fun w => rprod_any x1 z p w hx1l hz hp
      have HL := Lib.hid fun w => rsum_any x0 p l w hx0l hpl hl
      have HH := Lib.hid fun w => rdiff_any x0 p h w hx0l hpl hh
      have HS2 := mix_next (F := F) HJ hjn hrn (show splV F B n z J = l by unfold splV; rw [if_neg (by omega), if_pos (by omega), ← hjn, ← hx0, ← hx1, ← hp, ← hl]) (show splV F B n z jn = h by unfold splV; rw [if_neg (by omega), if_neg (by omega), show jn - n = J by omega, ← hx0, ← hx1, ← hp, ← hh])
      replace HS2 := Lib.hid HS2
      have HJL := Lib.hid hJl
      have HJN := Lib.hid hjnl
      have HM0 := Lib.hid m0
      have HM1 := Lib.hid m1
      have HRN : Hid (r + 1 ≤ n) := Lib.hid hrn
      obtain ⟨J1, hJ1⟩ := nat_var (J + 1)
      have HJ2 : Hid (J1 = B + (r + 1)) := Lib.hid (by omega)
      have hwJ1 : IntKind.i64.wrap ((J : Int) + 1) = (J1 : Int) := by rw [IntWalk.i64_in _ (by omega)]; omega
      have HMS : Hid (B + n - J1 < B + n - J) := Lib.hid (by omega)
      have HWJ := Lib.hid hwjn
      clear HJ hE hx0 hx1 m0 m1 hp hl hh hJ1 hjn hJl hjnl hx0l hx1l hpl hr hrn
      go_wp2_with (first
        | refine wpList_load_py rfl (.tmp 23) rfl r_b HJN.out rfl HM1.out ?_
        | (have hgo := HP; clear hgo
           go_at_call 44
           refine (HP.out _).mono ?_
           rintro e w5 ⟨rfl, rfl⟩
           clear HP))
      replace r_b := World.rowIs.drew r_b
      replace gB := gb_drew gB 1
      refine le_start [(0, some [22]), (1, some [22]), (2, some [25]), (3, some [25]), (4, some [25]), (5, some [25]), (6, some [22]), (7, some [22]), (8, some [22]), (9, some [22]), (10, some [12]), (11, some [12]), (13, some [25]), (14, some [25]), (15, some [25]), (16, some [25]), (17, some [19]), (18, some [19]), (20, some [25]), (23, some []), (12, none), (19, none), (21, some [22]), (22, none), (24, some [25]), (25, none)] 25 (by kernel_rfl) (by kernel_rfl) (by decide) (by kernel_rfl) (fun d _ _ _ _ h => by cases d <;> exact h) ?_
      refine le_rd 27 (.pointer (some ⟨b, 0, none⟩)) rfl rfl rfl rfl rfl rfl (x_move rfl) ?_
      simp only [Act.put, zA, zB, zC]
      refine le_rd 28 (.int .i64 (J : Int)) rfl rfl rfl rfl rfl rfl (x_move rfl) ?_
      simp only [Act.put, zA, zB, zC]
      refine le_rdA 29 (.pointer (some ⟨b, 0, none⟩)) rfl rfl rfl rfl rfl (fun w => x_move rfl) ?_
      simp only [Act.put, zA, zB, zC]
      refine le_rdA 30 (.int .i64 (J : Int)) rfl rfl rfl rfl rfl (fun w => x_move rfl) ?_
      simp only [Act.put, zA, zB, zC]
      refine le_rdA 31 (.int .i64 (n : Int)) rfl rfl rfl rfl rfl (fun w => x_move rfl) ?_
      simp only [Act.put, zA, zB, zC]
      refine le_rdA 32 (.int .i64 (jn : Int)) rfl rfl rfl rfl rfl (x_add rfl rfl HWJ.out) ?_
      simp only [Act.put, zA, zB, zC]
      refine le_rd 33 (.pointer (some ⟨b, 0, none⟩)) rfl rfl rfl rfl rfl rfl (x_move rfl) ?_
      simp only [Act.put, zA, zB, zC]
      refine le_rd 34 (.int .i64 (J : Int)) rfl rfl rfl rfl rfl rfl (x_move rfl) ?_
      simp only [Act.put, zA, zB, zC]
      refine le_rd 35 (.pointer (some ⟨b, 0, none⟩)) rfl rfl rfl rfl rfl rfl (x_nil rfl _) ?_
      simp only [Act.put, zA, zB, zC]
      refine le_rd 36 (.pointer (some ⟨b, J, none⟩)) rfl rfl rfl rfl rfl rfl (x_ia rfl rfl HJL.out _) ?_
      simp only [Act.put, zA, zB, zC]
      refine le_rd 37 (.int .u16 (x0 : Int)) rfl rfl rfl rfl rfl rfl (x_ld rfl r_b HJL.out HM0.out) ?_
      simp only [Act.put, zA, zB, zC]
      refine le_rd 38 (.int .u16 (p : Int)) rfl rfl rfl rfl rfl rfl (x_move rfl) ?_
      simp only [Act.put, zA, zB, zC]
      refine le_rdA 40 (.pointer (some ⟨b, 0, none⟩)) rfl rfl rfl rfl rfl (fun w => x_move rfl) ?_
      simp only [Act.put, zA, zB, zC]
      refine le_rdA 41 (.int .i64 (J : Int)) rfl rfl rfl rfl rfl (fun w => x_move rfl) ?_
      simp only [Act.put, zA, zB, zC]
      refine le_rdA 42 (.pointer (some ⟨b, 0, none⟩)) rfl rfl rfl rfl rfl (x_nil rfl) ?_
      simp only [Act.put, zA, zB, zC]
      refine le_rdA 43 (.pointer (some ⟨b, J, none⟩)) rfl rfl rfl rfl rfl (x_ia rfl rfl HJL.out) ?_
      simp only [Act.put, zA, zB, zC]
      refine le_rd 44 (.int .u16 (x0 : Int)) rfl rfl rfl rfl rfl rfl (x_ld rfl r_b HJL.out HM0.out) ?_
      simp only [Act.put, zA, zB, zC]
      refine le_rd 45 (.int .u16 (p : Int)) rfl rfl rfl rfl rfl rfl (x_move rfl) ?_
      simp only [Act.put, zA, zB, zC]
      refine le_rdA 47 (.pointer (some ⟨b, 0, none⟩)) rfl rfl rfl rfl rfl (x_nil rfl) ?_
      simp only [Act.put, zA, zB, zC]
      refine le_rdA 49 (.pointer (some ⟨b, 0, none⟩)) rfl rfl rfl rfl rfl (x_nil rfl) ?_
      simp only [Act.put, zA, zB, zC]
      refine le_call 39 (HL.out) rfl rfl rfl rfl Tryd.func38 (by kernel_rfl) (by kernel_rfl) (ar2 rfl rfl) ?_
      simp only [Act.put, zA, zB, zC]
      refine le_call 46 (HH.out) rfl rfl rfl rfl Tryd.func48 (by kernel_rfl) (by kernel_rfl) (ar2 rfl rfl) ?_
      simp only [Act.put, zA, zB, zC]
      refine le_rd 48 (.pointer (some ⟨b, J, none⟩)) rfl rfl rfl rfl rfl rfl (x_ia rfl rfl HJL.out _) ?_
      simp only [Act.put, zA, zB, zC]
      refine le_store (fun k => if k = J then l else mix F (splV F B n z) n B r k) rfl rfl rfl rfl rfl rfl r_b HJL.out rfl rfl (fun _ _ => rfl) ?_
      intro w6 r_b2 gk
      replace gB := grownBy_trans gB gk
      clear gk r_b
      refine le_rdA 50 (.pointer (some ⟨b, jn, none⟩)) rfl rfl rfl rfl rfl (x_ia rfl rfl HJN.out) ?_
      simp only [Act.put, zA, zB, zC]
      refine le_storeA (mix F (splV F B n z) n B (r + 1)) rfl rfl rfl rfl rfl r_b2 HJN.out rfl rfl HS2.out ?_
      intro w7 r_b gk
      replace gB := grownBy_trans gB gk
      clear gk r_b2 HS2
      refine le_end ?_
      go_wp2
      go_roundw
      case rel => exact ⟨r + 1, J1, HRN.out, HJ2, rfl, r_b, gB⟩
      case measure => (have := HMS.out; simp [intOf]; try omega)
    · obtain rfl : r = n := by omega
      have hJI : ¬ (J : Int) < (E : Int) := by omega
      clear HJ hE
      go_wp2
      go_end0
      exact ⟨rfl, r_b, gB⟩
set_option maxHeartbeats 4000000 in
set_option maxRecDepth 20000 in
theorem join_any (F : Nat → Nat) (b B n z : Nat) (w : World) (hF : ∀ i, F i < 65536) (hz : z < 65536) (hn : B + 2 * n ≤ 256) (hr : w.rowIs b 34 256 (pyF F)) : Calls Tryd.prog 43 #[.pointer (some ⟨b, 0, none⟩), .int .i64 (B : Int), .int .i64 (n : Int), .int .u16 (z : Int)] w fun e w' => e = .returned (.tuple #[]) ∧ w'.rowIs b 34 256 (pyF (mix F (joiV F B n z) n B n)) ∧ w.grownBy w' (some b) := by
  have HF := Lib.hid hF
  have HR := Lib.hid hr
  clear hF hr
  have gB := World.grownBy.refl w (some b)
  obtain ⟨E, hE⟩ := nat_var (B + n)
  have hwE : IntKind.i64.wrap ((B : Int) + (n : Int)) = (E : Int) := by rw [IntWalk.i64_in _ (by omega)]; omega
  have HE := Lib.hid hE
  clear hE
  have r_b : w.rowIs b 34 256 (pyF (mix F (joiV F B n z) n B 0)) := pyF_congr HR.out fun k _ => (joiV_start F B n z k).symm
  clear HR
  go_enter Tryd.func43, Tryd.ntmps43
  go_wp2
  go_loopw [8] (fun jv wr => ∃ r J : Nat, r ≤ n ∧ Hid (J = B + r) ∧ jv = .int .i64 (J : Int) ∧ wr.rowIs b 34 256 (pyF (mix F (joiV F B n z) n B r)) ∧ w.grownBy wr (some b)) (fun jv _ => B + n - (intOf jv).toNat)
  case atStart => exact ⟨0, B, Nat.zero_le _, Lib.hid rfl, rfl, r_b, gB⟩
  case round =>
    clear r_b gB
    obtain ⟨r, J, hr, HJ', rfl, r_b, gB⟩ := hrel
    have HJ := HJ'.out
    have hE := HE.out
    by_cases hrn : r < n
    · have hJI : (J : Int) < (E : Int) := by omega
      obtain ⟨jn, hjn⟩ := nat_var (J + n)
      have hJl : J < 256 := by omega
      have hjnl : jn < 256 := by omega
      have hJI2 : 0 ≤ (J : Int) ∧ (J : Int) < 256 := by omega
      have hjnI : 0 ≤ (jn : Int) ∧ (jn : Int) < 256 := by omega
      have hwjn : IntKind.i64.wrap ((J : Int) + (n : Int)) = (jn : Int) := by rw [IntWalk.i64_in _ (by omega)]; omega
      obtain ⟨x0, hx0⟩ := nat_var (F J)
      obtain ⟨x1, hx1⟩ := nat_var (F jn)
      have hx0l : x0 < 65536 := by rw [hx0]; exact HF.out J
      have hx1l : x1 < 65536 := by rw [hx1]; exact HF.out jn
      have m0 : mix F (joiV F B n z) n B r J = x0 := by rw [mix_no (by omega), hx0]
      have m1 : mix F (joiV F B n z) n B r jn = x1 := by rw [mix_no (by omega), hx1]
      obtain ⟨p, hp⟩ := nat_var ((x1 + (3329 - x0 % 3329)) % 3329)
      obtain ⟨l, hl⟩ := nat_var ((x0 + x1) % 3329)
      obtain ⟨h, hh⟩ := nat_var (p * z % 3329)
      have hpl : p < 65536 := by omega
      have HP := Lib.hid fun w => rdiff_any x1 x0 p w hx1l hx0l hp
      have HL := Lib.hid fun w => rsum_any x0 x1 l w hx0l hx1l hl
      have HH := Lib.hid fun w => rprod_any p z h w hpl hz hh
      have HS2 := mix_next (F := F) HJ hjn hrn (show joiV F B n z J = l by unfold joiV; rw [if_neg (by omega), if_pos (by omega), ← hjn, ← hx0, ← hx1, ← hl]) (show joiV F B n z jn = h by unfold joiV; rw [if_neg (by omega), if_neg (by omega), show jn - n = J by omega, ← hx0, ← hx1, ← hp, ← hh])
      replace HS2 := Lib.hid HS2
      have HJL := Lib.hid hJl
      have HJN := Lib.hid hjnl
      have HM0 := Lib.hid m0
      have HM1 := Lib.hid m1
      have HRN : Hid (r + 1 ≤ n) := Lib.hid hrn
      obtain ⟨J1, hJ1⟩ := nat_var (J + 1)
      have HJ2 : Hid (J1 = B + (r + 1)) := Lib.hid (by omega)
      have hwJ1 : IntKind.i64.wrap ((J : Int) + 1) = (J1 : Int) := by rw [IntWalk.i64_in _ (by omega)]; omega
      have HMS : Hid (B + n - J1 < B + n - J) := Lib.hid (by omega)
      have HWJ := Lib.hid hwjn
      clear HJ hE hx0 hx1 m0 m1 hp hl hh hJ1 hjn hJl hjnl hx0l hx1l hpl hr hrn
      go_wp2
      replace r_b := World.rowIs.drew r_b
      replace gB := gb_drew gB 1
      refine le_start [(0, some []), (1, some []), (2, some []), (3, some []), (4, some []), (5, some []), (6, some [12]), (7, some []), (8, some []), (9, some []), (10, some []), (11, some [12]), (12, none), (13, some [])] 1000 (by kernel_rfl) (by kernel_rfl) (by decide) (by kernel_rfl) (fun d _ _ _ _ h => by cases d <;> exact h) ?_
      refine le_rdA 18 (.pointer (some ⟨b, 0, none⟩)) rfl rfl rfl rfl rfl (fun w => x_move rfl) ?_
      simp only [Act.put, zA, zB, zC]
      refine le_rdA 19 (.int .i64 (J : Int)) rfl rfl rfl rfl rfl (fun w => x_move rfl) ?_
      simp only [Act.put, zA, zB, zC]
      refine le_rdA 20 (.int .i64 (n : Int)) rfl rfl rfl rfl rfl (fun w => x_move rfl) ?_
      simp only [Act.put, zA, zB, zC]
      refine le_rdA 21 (.int .i64 (jn : Int)) rfl rfl rfl rfl rfl (x_add rfl rfl HWJ.out) ?_
      simp only [Act.put, zA, zB, zC]
      refine le_rdA 22 (.pointer (some ⟨b, 0, none⟩)) rfl rfl rfl rfl rfl (x_nil rfl) ?_
      simp only [Act.put, zA, zB, zC]
      refine le_rdA 23 (.pointer (some ⟨b, jn, none⟩)) rfl rfl rfl rfl rfl (x_ia rfl rfl HJN.out) ?_
      simp only [Act.put, zA, zB, zC]
      refine le_rd 24 (.int .u16 (x1 : Int)) rfl rfl rfl rfl rfl rfl (x_ld rfl r_b HJN.out HM1.out) ?_
      simp only [Act.put, zA, zB, zC]
      refine le_rdA 25 (.pointer (some ⟨b, 0, none⟩)) rfl rfl rfl rfl rfl (fun w => x_move rfl) ?_
      simp only [Act.put, zA, zB, zC]
      refine le_rdA 26 (.int .i64 (J : Int)) rfl rfl rfl rfl rfl (fun w => x_move rfl) ?_
      simp only [Act.put, zA, zB, zC]
      refine le_rdA 27 (.pointer (some ⟨b, 0, none⟩)) rfl rfl rfl rfl rfl (x_nil rfl) ?_
      simp only [Act.put, zA, zB, zC]
      refine le_rdA 28 (.pointer (some ⟨b, J, none⟩)) rfl rfl rfl rfl rfl (x_ia rfl rfl HJL.out) ?_
      simp only [Act.put, zA, zB, zC]
      refine le_rd 29 (.int .u16 (x0 : Int)) rfl rfl rfl rfl rfl rfl (x_ld rfl r_b HJL.out HM0.out) ?_
      simp only [Act.put, zA, zB, zC]
      refine le_call 30 (HP.out) rfl rfl rfl rfl Tryd.func48 (by kernel_rfl) (by kernel_rfl) (ar2 rfl rfl) ?_
      simp only [Act.put, zA, zB, zC]
      refine le_rdA 9 (.int .u16 (p : Int)) rfl rfl rfl rfl rfl (fun w => x_assign rfl) ?_
      simp only [Act.put, zA, zB, zC]
      refine le_end ?_
      go_wp2
      replace r_b := World.rowIs.drew r_b
      replace gB := gb_drew gB 1
      refine le_start [(0, some [24]), (1, some [24]), (2, some [27]), (3, some [27]), (4, some [27]), (5, some [27]), (6, some [24]), (7, some [24]), (8, some [24]), (9, some [24]), (10, some [18]), (11, some [24]), (12, some [24]), (13, some [24]), (14, some [24]), (15, some [24]), (16, some [24]), (17, some [18]), (19, some [21]), (20, some [21]), (22, some [27]), (25, some []), (18, none), (21, none), (23, some [24]), (24, none), (26, some [27]), (27, none)] 27 (by kernel_rfl) (by kernel_rfl) (by decide) (by kernel_rfl) (fun d _ _ _ _ h => by cases d <;> exact h) ?_
      refine le_rd 31 (.pointer (some ⟨b, 0, none⟩)) rfl rfl rfl rfl rfl rfl (x_move rfl) ?_
      simp only [Act.put, zA, zB, zC]
      refine le_rd 32 (.int .i64 (J : Int)) rfl rfl rfl rfl rfl rfl (x_move rfl) ?_
      simp only [Act.put, zA, zB, zC]
      refine le_rdA 33 (.pointer (some ⟨b, 0, none⟩)) rfl rfl rfl rfl rfl (fun w => x_move rfl) ?_
      simp only [Act.put, zA, zB, zC]
      refine le_rdA 34 (.int .i64 (J : Int)) rfl rfl rfl rfl rfl (fun w => x_move rfl) ?_
      simp only [Act.put, zA, zB, zC]
      refine le_rdA 35 (.int .i64 (n : Int)) rfl rfl rfl rfl rfl (fun w => x_move rfl) ?_
      simp only [Act.put, zA, zB, zC]
      refine le_rdA 36 (.int .i64 (jn : Int)) rfl rfl rfl rfl rfl (x_add rfl rfl HWJ.out) ?_
      simp only [Act.put, zA, zB, zC]
      refine le_rd 37 (.pointer (some ⟨b, 0, none⟩)) rfl rfl rfl rfl rfl rfl (x_move rfl) ?_
      simp only [Act.put, zA, zB, zC]
      refine le_rd 38 (.int .i64 (J : Int)) rfl rfl rfl rfl rfl rfl (x_move rfl) ?_
      simp only [Act.put, zA, zB, zC]
      refine le_rd 39 (.pointer (some ⟨b, 0, none⟩)) rfl rfl rfl rfl rfl rfl (x_nil rfl _) ?_
      simp only [Act.put, zA, zB, zC]
      refine le_rd 40 (.pointer (some ⟨b, J, none⟩)) rfl rfl rfl rfl rfl rfl (x_ia rfl rfl HJL.out _) ?_
      simp only [Act.put, zA, zB, zC]
      refine le_rd 41 (.int .u16 (x0 : Int)) rfl rfl rfl rfl rfl rfl (x_ld rfl r_b HJL.out HM0.out) ?_
      simp only [Act.put, zA, zB, zC]
      refine le_rd 42 (.pointer (some ⟨b, 0, none⟩)) rfl rfl rfl rfl rfl rfl (x_move rfl) ?_
      simp only [Act.put, zA, zB, zC]
      refine le_rd 43 (.int .i64 (J : Int)) rfl rfl rfl rfl rfl rfl (x_move rfl) ?_
      simp only [Act.put, zA, zB, zC]
      refine le_rd 44 (.int .i64 (n : Int)) rfl rfl rfl rfl rfl rfl (x_move rfl) ?_
      simp only [Act.put, zA, zB, zC]
      refine le_rd 45 (.int .i64 (jn : Int)) rfl rfl rfl rfl rfl rfl (x_add rfl rfl HWJ.out _) ?_
      simp only [Act.put, zA, zB, zC]
      refine le_rd 46 (.pointer (some ⟨b, 0, none⟩)) rfl rfl rfl rfl rfl rfl (x_nil rfl _) ?_
      simp only [Act.put, zA, zB, zC]
      refine le_rd 47 (.pointer (some ⟨b, jn, none⟩)) rfl rfl rfl rfl rfl rfl (x_ia rfl rfl HJN.out _) ?_
      simp only [Act.put, zA, zB, zC]
      refine le_rd 48 (.int .u16 (x1 : Int)) rfl rfl rfl rfl rfl rfl (x_ld rfl r_b HJN.out HM1.out) ?_
      simp only [Act.put, zA, zB, zC]
      refine le_rd 50 (.int .u16 (p : Int)) rfl rfl rfl rfl rfl rfl (x_move rfl) ?_
      simp only [Act.put, zA, zB, zC]
      refine le_rd 51 (.int .u16 (z : Int)) rfl rfl rfl rfl rfl rfl (x_move rfl) ?_
      simp only [Act.put, zA, zB, zC]
      refine le_rdA 53 (.pointer (some ⟨b, 0, none⟩)) rfl rfl rfl rfl rfl (x_nil rfl) ?_
      simp only [Act.put, zA, zB, zC]
      refine le_rdA 55 (.pointer (some ⟨b, 0, none⟩)) rfl rfl rfl rfl rfl (x_nil rfl) ?_
      simp only [Act.put, zA, zB, zC]
      refine le_call 49 (HL.out) rfl rfl rfl rfl Tryd.func38 (by kernel_rfl) (by kernel_rfl) (ar2 rfl rfl) ?_
      simp only [Act.put, zA, zB, zC]
      refine le_call 52 (HH.out) rfl rfl rfl rfl Tryd.func44 (by kernel_rfl) (by kernel_rfl) (ar2 rfl rfl) ?_
      simp only [Act.put, zA, zB, zC]
      refine le_rd 54 (.pointer (some ⟨b, J, none⟩)) rfl rfl rfl rfl rfl rfl (x_ia rfl rfl HJL.out _) ?_
      simp only [Act.put, zA, zB, zC]
      refine le_store (fun k => if k = J then l else mix F (joiV F B n z) n B r k) rfl rfl rfl rfl rfl rfl r_b HJL.out rfl rfl (fun _ _ => rfl) ?_
      intro w6 r_b2 gk
      replace gB := grownBy_trans gB gk
      clear gk r_b
      refine le_rdA 56 (.pointer (some ⟨b, jn, none⟩)) rfl rfl rfl rfl rfl (x_ia rfl rfl HJN.out) ?_
      simp only [Act.put, zA, zB, zC]
      refine le_storeA (mix F (joiV F B n z) n B (r + 1)) rfl rfl rfl rfl rfl r_b2 HJN.out rfl rfl HS2.out ?_
      intro w7 r_b gk
      replace gB := grownBy_trans gB gk
      clear gk r_b2 HS2
      refine le_end ?_
      go_wp2
      go_roundw
      case rel => exact ⟨r + 1, J1, HRN.out, HJ2, rfl, r_b, gB⟩
      case measure => (have := HMS.out; simp [intOf]; try omega)
    · obtain rfl : r = n := by omega
      have hJI : ¬ (J : Int) < (E : Int) := by omega
      clear HJ hE
      go_wp2
      go_end0
      exact ⟨rfl, r_b, gB⟩
end Go.Proofs.YtflblaccfiigfabDoor

/- The program's polynomials: the transform, and the way back. -/
namespace Go.Proofs.YtflblaccfiigfabDoor
open Go.RowKit Go.Deep
set_option linter.unusedSimpArgs false
set_option linter.unusedVariables false

theorem spl_mix {Fm G : Nat → Nat} {n B z : Nat} (hlo : ∀ r, r < n → G (B + r) = (Fm (B + r) % 3329 + z * Fm (B + r + n) % 3329) % 3329) (hhi : ∀ r, r < n → G (B + r + n) = (Fm (B + r) % 3329 + 3329 - z * Fm (B + r + n) % 3329) % 3329) (k : Nat) :
    mix (mix Fm G n B 0) (splV (mix Fm G n B 0) B n z) n B n k = mix Fm G n (B + 2 * n) 0 k := by
  by_cases h1 : k < B
  · rw [mix_yes (by omega), mix_yes (by omega), splV, if_pos h1, mix_yes (by omega)]
  by_cases h2 : k < B + n
  · obtain ⟨r, rfl⟩ : ∃ r, k = B + r := ⟨k - B, by omega⟩
    rw [mix_yes (by omega), mix_yes (by omega), splV, if_neg h1, if_pos h2, mix_no (by omega), mix_no (by omega), hlo r (by omega), Nat.mul_comm z]
    omega
  by_cases h3 : k < B + 2 * n
  · obtain ⟨r, rfl⟩ : ∃ r, k = B + r + n := ⟨k - B - n, by omega⟩
    rw [mix_yes (by omega), mix_yes (by omega), splV, if_neg h1, if_neg h2, Nat.add_sub_cancel, mix_no (by omega), mix_no (by omega), hhi r (by omega), Nat.mul_comm z]
    omega
  · rw [mix_no (by omega), mix_no (by omega), mix_no (by omega)]
theorem joi_hi (a b z : Nat) : (a + (3329 - b % 3329)) % 3329 * z % 3329 = z * (a % 3329 + 3329 - b % 3329) % 3329 := by
  rw [Nat.mod_mul_mod, Nat.mul_comm _ z, ← Nat.mul_mod_mod, ← Nat.mul_mod_mod z (a % 3329 + 3329 - b % 3329)]
  congr 2
  omega
theorem joi_mix {Fm G : Nat → Nat} {n B z : Nat} (hlo : ∀ r, r < n → G (B + r) = (Fm (B + r) % 3329 + Fm (B + r + n) % 3329) % 3329) (hhi : ∀ r, r < n → G (B + r + n) = z * (Fm (B + r + n) % 3329 + 3329 - Fm (B + r) % 3329) % 3329) (k : Nat) :
    mix (mix Fm G n B 0) (joiV (mix Fm G n B 0) B n z) n B n k = mix Fm G n (B + 2 * n) 0 k := by
  by_cases h1 : k < B
  · rw [mix_yes (by omega), mix_yes (by omega), joiV, if_pos h1, mix_yes (by omega)]
  by_cases h2 : k < B + n
  · obtain ⟨r, rfl⟩ : ∃ r, k = B + r := ⟨k - B, by omega⟩
    rw [mix_yes (by omega), mix_yes (by omega), joiV, if_neg h1, if_pos h2, mix_no (by omega), mix_no (by omega), hlo r (by omega)]
    omega
  by_cases h3 : k < B + 2 * n
  · obtain ⟨r, rfl⟩ : ∃ r, k = B + r + n := ⟨k - B - n, by omega⟩
    rw [mix_yes (by omega), mix_yes (by omega), joiV, if_neg h1, if_neg h2, Nat.add_sub_cancel, mix_no (by omega), mix_no (by omega), hhi r (by omega), joi_hi]
  · rw [mix_no (by omega), mix_no (by omega), mix_no (by omega)]
theorem mix_lt {Fm G : Nat → Nat} {n B r : Nat} (h1 : ∀ i, Fm i < 65536) (h2 : ∀ i, G i < 65536) (i : Nat) : mix Fm G n B r i < 65536 := by
  unfold mix
  split
  · exact h2 i
  · exact h1 i
set_option maxHeartbeats 4000000 in
set_option maxRecDepth 20000 in
theorem rNTT_any (f : Nat → Nat) (w : World) (hf : ∀ i, f i < 65536) : Calls Tryd.prog 16 #[.agg (arrOf 256 (pyF f))] w fun e w' => e = .returned (.agg (arrOf 256 (pyF (nttN f)))) ∧ Below w.heap.size w w' := by
  have Bw0 := Below.refl w.heap.size w
  have HGS : Hid (∀ wq : World, Below w.heap.size w wq → w.heap.size ≤ wq.heap.size) := Lib.hid fun wq h => h.size
  have Hf := Lib.hid (stg_lt hf)
  clear hf
  go_enter Tryd.func16, Tryd.ntmps16
  go_wp2_with (first
    | (have hgo := Bw0; clear hgo
       refine wpList_box_row rfl 34 (.tmp 0) rfl 256 (pyF f) rfl ?_
       intro b_t1 w1 lk r_t1 kk
       have l_t1 := zrl HGS Bw0 lk
       have Bw1 := zbt HGS Bw0 kk
       clear Bw0 kk lk)
    | (have hgo := Bw1; clear hgo
       refine wpList_alloc_row rfl 34 rfl 256 (pyF fun _ => 0) zeroP ?_
       intro b_t2 w2 lk r_t2 kk
       have n_t1_t2 := zrn r_t1 lk
       have l_t2 := zrl HGS Bw1 lk
       replace r_t1 := zrb r_t1 kk
       have Bw2 := zbt HGS Bw1 kk
       clear Bw1 kk lk)
    | (have hgo := Bw2; clear hgo
       go_at_call 33
       refine (powers_any _).mono ?_
       rintro e w3 ⟨rfl, kk⟩
       replace r_t1 := zrb r_t1 kk
       replace r_t2 := zrb r_t2 kk
       have Bw3 := zbt HGS Bw2 kk
       clear Bw2 kk)
    | (have hgo := Bw3; clear hgo
       refine wpList_alloc_row rfl 33 rfl 256 (pyF fun _ => 0) zeroW ?_
       intro b_t3 w4 lk r_t3 kk
       have n_t1_t3 := zrn r_t1 lk
       have n_t2_t3 := zrn r_t2 lk
       have l_t3 := zrl HGS Bw3 lk
       replace r_t1 := zrb r_t1 kk
       replace r_t2 := zrb r_t2 kk
       have Bw4 := zbt HGS Bw3 kk
       clear Bw3 kk lk)
    | (have hgo := Bw4; clear hgo
       refine wpList_store_as rfl 33 (.tmp 3) (.tmp 7) rfl 256 (pyF (fun k => 17 ^ k % 3329)) arrW r_t3 rfl rfl (by omega) (fun _ _ => rfl) (fun i hi => putN_whole hi) ?_
       intro w5 q gk
       replace r_t1 := gb_rowIs r_t1 gk n_t1_t3
       replace r_t2 := gb_rowIs r_t2 gk n_t2_t3
       replace r_t3 := q
       have Bw5 := zbg HGS Bw4 gk l_t3
       clear Bw4 gk q))
  go_loopw [4, 5] (fun kv nv wr => ∃ m M n : Nat, m ≤ 7 ∧ Hid (M = 2 ^ m) ∧ Hid (M * n = 128) ∧ kv = .int .i64 (M : Int) ∧ nv = .int .i64 (n : Int) ∧ wr.rowIs b_t1 34 256 (pyF (stg f m)) ∧ wr.rowIs b_t2 34 256 (pyF fun _ => 0) ∧ wr.rowIs b_t3 33 256 (pyF fun k => 17 ^ k % 3329) ∧ Below w.heap.size w wr) (fun _ nv _ => (intOf nv).toNat)
  case atStart => exact ⟨0, 1, 128, Nat.zero_le _, Lib.hid rfl, Lib.hid rfl, rfl, rfl, r_t1, r_t2, r_t3, Bw5⟩
  case round =>
    clear r_t1 r_t2 r_t3 Bw5
    obtain ⟨m, M, n, hm, HM, HMN, rfl, rfl, r_t1, r_t2, r_t3, Bw⟩ := hrel
    by_cases h2 : 2 ≤ n
    · have h2I : (2 : Int) ≤ (n : Int) := by omega
      obtain ⟨hm7, hev, hM64, hM1, hn128⟩ := two_step n m M HM.out HMN.out h2
      obtain ⟨G, hG⟩ : ∃ G, G = stg f (m + 1) := ⟨_, rfl⟩
      obtain ⟨Fm, hF⟩ : ∃ F, F = stg f m := ⟨_, rfl⟩
      have HG := Lib.hid hG
      have HFl : Hid (∀ i, Fm i < 65536) := Lib.hid fun i => by rw [hF]; exact Hf.out m i
      have HGl : Hid (∀ i, G i < 65536) := Lib.hid fun i => by rw [hG]; exact Hf.out (m + 1) i
      have hdv : 128 / n = M := Nat.div_eq_of_eq_mul_left (by omega) HMN.out.symm
      have HLO : Hid (∀ s r, r < n → G (s * (2 * n) + r) = (Fm (s * (2 * n) + r) % 3329 + Zv (M + s) * Fm (s * (2 * n) + r + n) % 3329) % 3329) := Lib.hid fun s r hr => by
        rw [hG, hF]
        show layV (128 / 2 ^ m) (stg f m) _ = _
        rw [← HM.out, show 128 / M = n from Nat.div_eq_of_eq_mul_left (by omega) (by rw [Nat.mul_comm]; exact HMN.out.symm), layV_lo n s r hr, hdv]
      have HHI : Hid (∀ s r, r < n → G (s * (2 * n) + r + n) = (Fm (s * (2 * n) + r) % 3329 + 3329 - Zv (M + s) * Fm (s * (2 * n) + r + n) % 3329) % 3329) := Lib.hid fun s r hr => by
        rw [hG, hF]
        show layV (128 / 2 ^ m) (stg f m) _ = _
        rw [← HM.out, show 128 / M = n from Nat.div_eq_of_eq_mul_left (by omega) (by rw [Nat.mul_comm]; exact HMN.out.symm), layV_hi n s r hr, hdv]
      rw [← hF] at r_t1
      have r_0 : wr.rowIs b_t1 34 256 (pyF (mix Fm G n 0 0)) := pyF_congr r_t1 fun k _ => (mix_no (by omega)).symm
      obtain ⟨nn, hnn⟩ := nat_var (2 * n)
      have hwnn : IntKind.i64.wrap (2 * (n : Int)) = (nn : Int) := by rw [IntWalk.i64_in _ (by omega)]; omega
      have HNN := Lib.hid hnn
      have HEV := Lib.hid hev
      have HM7 := Lib.hid hm7
      have hnq : IntKind.i64.wrap ((n : Int).tdiv 2) = ((n / 2 : Nat) : Int) := by rw [Int.tdiv_eq_ediv_of_nonneg (by omega), IntWalk.i64_in _ (by omega)]; omega
      have hnq2 : IntKind.i64.wrap ((n : Int) / 2) = ((n / 2 : Nat) : Int) := by rw [IntWalk.i64_in _ (by omega)]; omega
      obtain ⟨n', hn'⟩ := nat_var (n / 2)
      rw [← hn'] at hnq hnq2
      have HN2 := Lib.hid hn'
      clear hG hF hdv r_t1 hev hm7 hn' hnn
      go_wp2
      go_loopw [4, 6] (fun kv sv wr => ∃ s K B : Nat, s ≤ M ∧ Hid (K = M + s) ∧ Hid (B = s * (2 * n)) ∧ kv = .int .i64 (K : Int) ∧ sv = .int .i64 (B : Int) ∧ wr.rowIs b_t1 34 256 (pyF (mix Fm G n B 0)) ∧ wr.rowIs b_t2 34 256 (pyF fun _ => 0) ∧ wr.rowIs b_t3 33 256 (pyF fun k => 17 ^ k % 3329) ∧ Below w.heap.size w wr) (fun _ sv _ => 256 - (intOf sv).toNat)
      case atStart => exact ⟨0, M, 0, Nat.zero_le _, Lib.hid rfl, Lib.hid (Nat.zero_mul _).symm, rfl, rfl, r_0, r_t2, r_t3, Bw⟩
      case round =>
        clear r_0 r_t2 r_t3 Bw
        obtain ⟨s, K, B, hs, HK, HB, rfl, rfl, r_t1, r_t2, r_t3, Bw⟩ := hrel
        by_cases hB : B < 256
        · have hBI : (B : Int) < 256 := by omega
          have hsM : s < M := by
            rcases Nat.lt_or_ge s M with h3 | h3
            · exact h3
            · have h4 : s = M := by omega
              have h5 := HB.out
              have h6 := HMN.out
              rw [h4, Nat.mul_left_comm, h6] at h5
              omega
          have hBn : B + 2 * n ≤ 256 := by rw [HB.out]; exact cut_lt HMN.out hsM
          have hKl : K < 128 := by rw [HK.out]; omega
          obtain ⟨e0, he0⟩ := nat_var (rev7 K)
          have he0l : e0 < 256 := by rw [he0]; exact Nat.lt_trans (rev7_lt K) (by decide)
          obtain ⟨z, hz⟩ := nat_var (17 ^ e0 % 3329)
          have HZV : Hid (Zv (M + s) = z) := Lib.hid (by rw [← HK.out, hz, he0]; rfl)
          have hK1 : IntKind.i64.wrap ((K : Int) + 1) = ((K + 1 : Nat) : Int) := by rw [IntWalk.i64_in _ (by omega)]; omega
          obtain ⟨K1, hK1'⟩ := nat_var (K + 1)
          rw [← hK1'] at hK1
          have HKK : Hid (K1 = M + (s + 1)) := Lib.hid (by rw [hK1', HK.out, Nat.add_assoc])
          have hzl : z < 65536 := by rw [hz]; exact Nat.lt_trans (Nat.mod_lt _ (by decide)) (by decide)
          have HRV := Lib.hid fun w => turned_any K e0 w hKl he0
          have he0I : 0 ≤ (e0 : Int) ∧ (e0 : Int) < 256 := by omega
          have HE0 := Lib.hid he0l
          have HZZ : Hid ((fun k => 17 ^ k % 3329) e0 = z) := Lib.hid hz.symm
          have HSP := Lib.hid fun (w : World) (h : w.rowIs b_t1 34 256 (pyF (mix Fm G n B 0))) => split_any (mix Fm G n B 0) b_t1 B n z w (mix_lt HFl.out HGl.out) hzl hBn h
          obtain ⟨B2, hB2⟩ := nat_var (B + nn)
          have hwB2 : IntKind.i64.wrap ((B : Int) + (nn : Int)) = (B2 : Int) := by have := HNN.out; rw [IntWalk.i64_in _ (by omega)]; omega
          have hB3 : B2 = B + 2 * n := by rw [hB2, HNN.out]
          have HPS : Hid (∀ k, mix (mix Fm G n B 0) (splV (mix Fm G n B 0) B n z) n B n k = mix Fm G n B2 0 k) := Lib.hid (by rw [hB3]; exact spl_mix (Fm := Fm) (G := G) (n := n) (B := B) (z := z) (fun r hr => by have h := HLO.out s r hr; rw [← HB.out] at h; rw [HZV.out] at h; exact h) (fun r hr => by have h := HHI.out s r hr; rw [HZV.out, ← HB.out] at h; exact h))
          have HSB : Hid (B2 = (s + 1) * (2 * n)) := Lib.hid (by rw [hB3, Nat.add_mul, Nat.one_mul, ← HB.out])
          have HMS : Hid (256 - B2 < 256 - B) := Lib.hid (by omega)
          have HSM := Lib.hid hsM
          clear he0 he0l hz hKl hK1' hB2 hB3 hsM hBn hzl
          go_wp2_with (first
            | (have hgo := HRV; clear hgo
               go_at_call 35
               refine (HRV.out _).mono ?_
               rintro e w5 ⟨rfl, rfl⟩
               clear HRV)
            | (have hgo := HZZ; clear hgo
               refine wpList_load_py rfl (.tmp 22) rfl r_t3 HE0.out rfl HZZ.out ?_
               clear HZZ)
            | (have hgo := HSP; clear hgo
               go_at_call 34
               refine (HSP.out _ r_t1).mono ?_
               rintro e w6 ⟨rfl, q6, g6⟩
               replace r_t2 := gb_rowIs r_t2 g6 (Ne.symm n_t1_t2)
               replace r_t3 := gb_rowIs r_t3 g6 (Ne.symm n_t1_t3)
               replace r_t1 : w6.rowIs b_t1 34 256 (pyF (mix Fm G n B2 0)) := pyF_congr q6 fun k _ => HPS.out k
               have Bw3 := Bw.grown g6 (HGS.out _ Bw) (by intro k hk; cases hk; exact l_t1)
               clear Bw g6 q6 HSP))
          go_roundw
          case rel => exact ⟨s + 1, K1, B2, HSM.out, HKK, HSB, rfl, rfl, r_t1, r_t2, r_t3, Bw3⟩
          case measure => (have := HMS.out; simp [intOf]; try omega)
        · have hBI : ¬ (B : Int) < 256 := by omega
          obtain ⟨hsM, hB256⟩ := cut_ge HMN.out HB.out hs hB
          have r_n : wr.rowIs b_t1 34 256 (pyF (stg f (m + 1))) := pyF_congr r_t1 fun k hk => by rw [mix_yes (by omega), HG.out]
          have HK2 : Hid (K = 2 ^ (m + 1)) := Lib.hid (by rw [HK.out, hsM, Nat.pow_succ, ← HM.out]; omega)
          have HKN : Hid (K * n' = 128) := Lib.hid (by
            have h3 := HMN.out
            have h4 := HEV.out
            have h5 := HN2.out
            rw [HK.out, hsM, h5, ← Nat.two_mul, Nat.mul_assoc, Nat.mul_left_comm, ← h4]
            exact h3)
          have HLT : Hid (n' < n) := Lib.hid (by have := HN2.out; omega)
          clear r_t1 hsM hB256
          go_wp2
          go_roundw
          case rel => exact ⟨m + 1, K, n', HM7.out, HK2, HKN, rfl, rfl, r_n, r_t2, r_t3, Bw⟩
          case measure => (have := HLT.out; simp [intOf]; try omega)
    · have h2I : ¬ (2 : Int) ≤ (n : Int) := by omega
      obtain rfl : m = 7 := two_end n m M HM.out hm HMN.out h2
      have Bw0 := Bw
      clear Bw
      go_wp2_with (first
        | (have hgo := Bw0; clear hgo
           refine wpList_load_as rfl 34 (.tmp 1) rfl 256 (pyF (stg f 7)) arrP r_t1 rfl (by omega) (fun i hi => by rw [Nat.zero_add]) ?_
           have Bw1 := Bw0
           clear Bw0)
        | (have hgo := Bw1; clear hgo
           refine wpList_store_as rfl 34 (.tmp 2) (.tmp 27) rfl 256 (pyF (stg f 7)) arrP r_t2 rfl rfl (by omega) (fun _ _ => rfl) (fun i hi => putN_whole hi) ?_
           intro w502 q gk
           replace r_t1 := gb_rowIs r_t1 gk n_t1_t2
           replace r_t2 := q
           have Bw2 := zbg HGS Bw1 gk l_t2
           clear Bw1 gk q))
      exact ret_cell_as _ rfl arrP r_t2 rfl (by omega) (fun _ _ => rfl) rfl ⟨rfl, Bw2⟩
theorem inv_big (n m : Nat) (hn : n = 2 ^ (m + 1)) (h2 : ¬ n ≤ 128) : 256 ≤ n := by
  rcases Nat.lt_or_ge m 7 with h | h
  · have := Nat.pow_le_pow_right (show 0 < 2 by decide) (show m + 1 ≤ 7 by omega)
    omega
  · have := Nat.pow_le_pow_right (show 0 < 2 by decide) (show 8 ≤ m + 1 by omega)
    omega
set_option maxHeartbeats 4000000 in
set_option maxRecDepth 20000 in
theorem rInverse_any (f : Nat → Nat) (w : World) (hf : ∀ i, f i < 65536) : Calls Tryd.prog 26 #[.agg (arrOf 256 (pyF f))] w fun e w' => e = .returned (.agg (arrOf 256 (pyF (invN f)))) ∧ Below w.heap.size w w' := by
  have Bw0 := Below.refl w.heap.size w
  have HGS : Hid (∀ wq : World, Below w.heap.size w wq → w.heap.size ≤ wq.heap.size) := Lib.hid fun wq h => h.size
  have Hf := Lib.hid (istg_lt hf)
  clear hf
  go_enter Tryd.func26, Tryd.ntmps26
  go_wp2_with (first
    | (have hgo := Bw0; clear hgo
       refine wpList_box_row rfl 34 (.tmp 0) rfl 256 (pyF f) rfl ?_
       intro b_t1 w1 lk r_t1 kk
       have l_t1 := zrl HGS Bw0 lk
       have Bw1 := zbt HGS Bw0 kk
       clear Bw0 kk lk)
    | (have hgo := Bw1; clear hgo
       refine wpList_alloc_row rfl 34 rfl 256 (pyF fun _ => 0) zeroP ?_
       intro b_t2 w2 lk r_t2 kk
       have n_t1_t2 := zrn r_t1 lk
       have l_t2 := zrl HGS Bw1 lk
       replace r_t1 := zrb r_t1 kk
       have Bw2 := zbt HGS Bw1 kk
       clear Bw1 kk lk)
    | (have hgo := Bw2; clear hgo
       go_at_call 33
       refine (powers_any _).mono ?_
       rintro e w3 ⟨rfl, kk⟩
       replace r_t1 := zrb r_t1 kk
       replace r_t2 := zrb r_t2 kk
       have Bw3 := zbt HGS Bw2 kk
       clear Bw2 kk)
    | (have hgo := Bw3; clear hgo
       refine wpList_alloc_row rfl 33 rfl 256 (pyF fun _ => 0) zeroW ?_
       intro b_t3 w4 lk r_t3 kk
       have n_t1_t3 := zrn r_t1 lk
       have n_t2_t3 := zrn r_t2 lk
       have l_t3 := zrl HGS Bw3 lk
       replace r_t1 := zrb r_t1 kk
       replace r_t2 := zrb r_t2 kk
       have Bw4 := zbt HGS Bw3 kk
       clear Bw3 kk lk)
    | (have hgo := Bw4; clear hgo
       refine wpList_store_as rfl 33 (.tmp 3) (.tmp 9) rfl 256 (pyF (fun k => 17 ^ k % 3329)) arrW r_t3 rfl rfl (by omega) (fun _ _ => rfl) (fun i hi => putN_whole hi) ?_
       intro w5 q gk
       replace r_t1 := gb_rowIs r_t1 gk n_t1_t3
       replace r_t2 := gb_rowIs r_t2 gk n_t2_t3
       replace r_t3 := q
       have Bw5 := zbg HGS Bw4 gk l_t3
       clear Bw4 gk q))
  go_loopw [4, 5] (fun kv nv wr => ∃ m K n : Nat, m ≤ 7 ∧ Hid (n = 2 ^ (m + 1)) ∧ Hid (n * (K + 1) = 256) ∧ kv = .int .i64 (K : Int) ∧ nv = .int .i64 (n : Int) ∧ wr.rowIs b_t1 34 256 (pyF (istg f m)) ∧ wr.rowIs b_t2 34 256 (pyF fun _ => 0) ∧ wr.rowIs b_t3 33 256 (pyF fun k => 17 ^ k % 3329) ∧ Below w.heap.size w wr) (fun _ nv _ => 300 - (intOf nv).toNat)
  case atStart => exact ⟨0, 127, 2, Nat.zero_le _, Lib.hid rfl, Lib.hid rfl, rfl, rfl, r_t1, r_t2, r_t3, Bw5⟩
  case round =>
    clear r_t1 r_t2 r_t3 Bw5
    obtain ⟨m, K0, n, hm, HN, HNK, rfl, rfl, r_t1, r_t2, r_t3, Bw⟩ := hrel
    by_cases h2 : n ≤ 128
    · obtain ⟨hm7, hn2, M, hMN, hKM, hM64, hM1, hdv⟩ := inv_m n m K0 HN.out hm HNK.out h2
      have h2I : (n : Int) < 256 := by omega
      have HMN := Lib.hid hMN
      obtain ⟨G, hG⟩ : ∃ G, G = istg f (m + 1) := ⟨_, rfl⟩
      obtain ⟨Fm, hF⟩ : ∃ F, F = istg f m := ⟨_, rfl⟩
      have HG := Lib.hid hG
      have HFl : Hid (∀ i, Fm i < 65536) := Lib.hid fun i => by rw [hF]; exact Hf.out m i
      have HGl : Hid (∀ i, G i < 65536) := Lib.hid fun i => by rw [hG]; exact Hf.out (m + 1) i
      have HLO : Hid (∀ s r, r < n → G (s * (2 * n) + r) = (Fm (s * (2 * n) + r) % 3329 + Fm (s * (2 * n) + r + n) % 3329) % 3329) := Lib.hid fun s r hr => by
        rw [hG, hF]
        show ilyV (2 ^ (m + 1)) (istg f m) _ = _
        rw [← HN.out, ilyV_lo n s r hr]
      have HHI : Hid (∀ s r, r < n → G (s * (2 * n) + r + n) = Zv (2 * M - 1 - s) * (Fm (s * (2 * n) + r + n) % 3329 + 3329 - Fm (s * (2 * n) + r) % 3329) % 3329) := Lib.hid fun s r hr => by
        rw [hG, hF]
        show ilyV (2 ^ (m + 1)) (istg f m) _ = _
        rw [← HN.out, ilyV_hi n s r hr, hdv]
      rw [← hF] at r_t1
      have r_0 : wr.rowIs b_t1 34 256 (pyF (mix Fm G n 0 0)) := pyF_congr r_t1 fun k _ => (mix_no (by omega)).symm
      obtain ⟨nn, hnn⟩ := nat_var (2 * n)
      have hwnn : IntKind.i64.wrap (2 * (n : Int)) = (nn : Int) := by rw [IntWalk.i64_in _ (by omega)]; omega
      have hwnn2 : IntKind.i64.wrap ((n : Int) * 2) = (nn : Int) := by rw [IntWalk.i64_in _ (by omega)]; omega
      have HNN := Lib.hid hnn
      have HM7 := Lib.hid hm7
      have HK0 : Hid (K0 + 0 + 1 = 2 * M) := Lib.hid hKM
      clear hG hF hdv r_t1 hm7 hnn hMN hKM
      go_wp2
      go_loopw [4, 6] (fun kv sv wr => ∃ s K B : Nat, s ≤ M ∧ Hid (K + s + 1 = 2 * M) ∧ Hid (B = s * (2 * n)) ∧ kv = .int .i64 (K : Int) ∧ sv = .int .i64 (B : Int) ∧ wr.rowIs b_t1 34 256 (pyF (mix Fm G n B 0)) ∧ wr.rowIs b_t2 34 256 (pyF fun _ => 0) ∧ wr.rowIs b_t3 33 256 (pyF fun k => 17 ^ k % 3329) ∧ Below w.heap.size w wr) (fun _ sv _ => 256 - (intOf sv).toNat)
      case atStart => exact ⟨0, K0, 0, Nat.zero_le _, HK0, Lib.hid (Nat.zero_mul _).symm, rfl, rfl, r_0, r_t2, r_t3, Bw⟩
      case round =>
        clear r_0 r_t2 r_t3 Bw
        obtain ⟨s, K, B, hs, HK, HB, rfl, rfl, r_t1, r_t2, r_t3, Bw⟩ := hrel
        by_cases hB : B < 256
        · have hBI : (B : Int) < 256 := by omega
          have hsM : s < M := by
            rcases Nat.lt_or_ge s M with h3 | h3
            · exact h3
            · have h4 : s = M := by omega
              have h5 := HB.out
              have h6 := HMN.out
              rw [h4, Nat.mul_left_comm, h6] at h5
              omega
          have hBn : B + 2 * n ≤ 256 := by rw [HB.out]; exact cut_lt HMN.out hsM
          have hKl : K < 128 := by have := HK.out; omega
          have hK1l : 1 ≤ K := by have := HK.out; omega
          obtain ⟨e0, he0⟩ := nat_var (rev7 K)
          have he0l : e0 < 256 := by rw [he0]; exact Nat.lt_trans (rev7_lt K) (by decide)
          obtain ⟨z, hz⟩ := nat_var (17 ^ e0 % 3329)
          have HZV : Hid (Zv (2 * M - 1 - s) = z) := Lib.hid (by rw [show 2 * M - 1 - s = K by have := HK.out; omega, hz, he0]; rfl)
          have hK1 : IntKind.i64.wrap ((K : Int) - 1) = ((K - 1 : Nat) : Int) := by rw [IntWalk.i64_in _ (by omega)]; omega
          obtain ⟨K1, hK1'⟩ := nat_var (K - 1)
          rw [← hK1'] at hK1
          have HKK : Hid (K1 + (s + 1) + 1 = 2 * M) := Lib.hid (by have := HK.out; omega)
          clear hK1l
          have hzl : z < 65536 := by rw [hz]; exact Nat.lt_trans (Nat.mod_lt _ (by decide)) (by decide)
          have HRV := Lib.hid fun w => turned_any K e0 w hKl he0
          have he0I : 0 ≤ (e0 : Int) ∧ (e0 : Int) < 256 := by omega
          have HE0 := Lib.hid he0l
          have HZZ : Hid ((fun k => 17 ^ k % 3329) e0 = z) := Lib.hid hz.symm
          have HSP := Lib.hid fun (w : World) (h : w.rowIs b_t1 34 256 (pyF (mix Fm G n B 0))) => join_any (mix Fm G n B 0) b_t1 B n z w (mix_lt HFl.out HGl.out) hzl hBn h
          obtain ⟨B2, hB2⟩ := nat_var (B + nn)
          have hwB2 : IntKind.i64.wrap ((B : Int) + (nn : Int)) = (B2 : Int) := by have := HNN.out; rw [IntWalk.i64_in _ (by omega)]; omega
          have hB3 : B2 = B + 2 * n := by rw [hB2, HNN.out]
          have HPS : Hid (∀ k, mix (mix Fm G n B 0) (joiV (mix Fm G n B 0) B n z) n B n k = mix Fm G n B2 0 k) := Lib.hid (by rw [hB3]; exact joi_mix (Fm := Fm) (G := G) (n := n) (B := B) (z := z) (fun r hr => by have h := HLO.out s r hr; rw [← HB.out] at h; exact h) (fun r hr => by have h := HHI.out s r hr; rw [HZV.out, ← HB.out] at h; exact h))
          have HSB : Hid (B2 = (s + 1) * (2 * n)) := Lib.hid (by rw [hB3, Nat.add_mul, Nat.one_mul, ← HB.out])
          have HMS : Hid (256 - B2 < 256 - B) := Lib.hid (by omega)
          have HSM := Lib.hid hsM
          clear he0 he0l hz hKl hK1' hB2 hB3 hsM hBn hzl
          go_wp2_with (first
            | (have hgo := HRV; clear hgo
               go_at_call 35
               refine (HRV.out _).mono ?_
               rintro e w5 ⟨rfl, rfl⟩
               clear HRV)
            | (have hgo := HZZ; clear hgo
               refine wpList_load_py rfl (.tmp 24) rfl r_t3 HE0.out rfl HZZ.out ?_
               clear HZZ)
            | (have hgo := HSP; clear hgo
               go_at_call 43
               refine (HSP.out _ r_t1).mono ?_
               rintro e w6 ⟨rfl, q6, g6⟩
               replace r_t2 := gb_rowIs r_t2 g6 (Ne.symm n_t1_t2)
               replace r_t3 := gb_rowIs r_t3 g6 (Ne.symm n_t1_t3)
               replace r_t1 : w6.rowIs b_t1 34 256 (pyF (mix Fm G n B2 0)) := pyF_congr q6 fun k _ => HPS.out k
               have Bw3 := Bw.grown g6 (HGS.out _ Bw) (by intro k hk; cases hk; exact l_t1)
               clear Bw g6 q6 HSP))
          go_roundw
          case rel => exact ⟨s + 1, K1, B2, HSM.out, HKK, HSB, rfl, rfl, r_t1, r_t2, r_t3, Bw3⟩
          case measure => (have := HMS.out; simp [intOf]; try omega)
        · have hBI : ¬ (B : Int) < 256 := by omega
          obtain ⟨hsM, hB256⟩ := cut_ge HMN.out HB.out hs hB
          have r_n : wr.rowIs b_t1 34 256 (pyF (istg f (m + 1))) := pyF_congr r_t1 fun k hk => by rw [mix_yes (by omega), HG.out]
          have HK2 : Hid (nn = 2 ^ (m + 1 + 1)) := Lib.hid (by rw [Nat.pow_succ, ← HN.out, HNN.out, Nat.mul_comm])
          have HKN : Hid (nn * (K + 1) = 256) := Lib.hid (by
            have h3 := HMN.out
            have h4 : K + 1 = M := by have := HK.out; omega
            rw [HNN.out, h4, Nat.mul_assoc, Nat.mul_comm n M, h3])
          have HLT : Hid (300 - nn < 300 - n) := Lib.hid (by have := HNN.out; omega)
          clear r_t1 hsM hB256
          go_wp2
          go_roundw
          case rel => exact ⟨m + 1, K, nn, HM7.out, HK2, HKN, rfl, rfl, r_n, r_t2, r_t3, Bw⟩
          case measure => (have := HLT.out; simp [intOf]; try omega)
    · have h2I : ¬ (n : Int) < 256 := by have h8 := inv_big n m HN.out h2; omega
      obtain rfl : m = 7 := inv_end n m HN.out hm h2
      have Bw0 := Bw
      clear Bw r_t3
      go_wp2_with (first
        | (have hgo := Bw0; clear hgo
           refine wpList_load_as rfl 34 (.tmp 1) rfl 256 (pyF (istg f 7)) arrP r_t1 rfl (by omega) (fun i hi => by rw [Nat.zero_add]) ?_
           have Bw1 := Bw0
           clear Bw0))
      obtain ⟨A, hA⟩ : ∃ A, A = istg f 7 := ⟨_, rfl⟩
      have HA := Lib.hid hA
      have HAl : Hid (∀ i, A i < 65536) := Lib.hid fun i => by rw [hA]; exact Hf.out 7 i
      rw [← hA] at r_t1
      rw [← hA]
      have r_0 : wr.rowIs b_t1 34 256 (pyF fun k => if k < 0 then A k * 3303 % 3329 else A k) := pyF_congr r_t1 fun k _ => (if_neg (Nat.not_lt_zero k)).symm
      clear hA r_t1
      go_loopw [30] (fun ii wr => ∃ i : Nat, i ≤ 256 ∧ ii = .int .i64 (i : Int) ∧ wr.rowIs b_t1 34 256 (pyF fun k => if k < i then A k * 3303 % 3329 else A k) ∧ wr.rowIs b_t2 34 256 (pyF fun _ => 0) ∧ Below w.heap.size w wr) (fun ii _ => 256 - (intOf ii).toNat)
      case atStart => exact ⟨0, by omega, rfl, r_0, r_t2, Bw1⟩
      case round =>
        clear r_0 r_t2 Bw1
        obtain ⟨i, hi, rfl, r_t1, r_t2, Bw⟩ := hrel
        by_cases hlt : i < 256
        · have hiI : 0 ≤ (i : Int) ∧ (i : Int) < 256 := by omega
          obtain ⟨x, hx⟩ := nat_var (A i)
          have hxl : x < 65536 := by rw [hx]; exact HAl.out i
          obtain ⟨z, hz⟩ := nat_var (x * 3303 % 3329)
          have HX := Lib.hid hx.symm
          have HCP := Lib.hid fun w => rprod_any x 3303 z w hxl (by decide) hz
          have HS : Hid (∀ k, k < 256 → (fun k => if k < i + 1 then A k * 3303 % 3329 else A k) k = if k = i then z else (fun k => if k < i then A k * 3303 % 3329 else A k) k) := Lib.hid fun k hk => by
            show (if k < i + 1 then _ else _) = if k = i then z else if k < i then _ else _
            by_cases e : k = i
            · rw [if_pos (by omega), if_pos e, e, hz, hx]
            · rw [if_neg e]
              by_cases h2 : k < i
              · rw [if_pos h2, if_pos (by omega)]
              · rw [if_neg h2, if_neg (by omega)]
          have HI := Lib.hid hlt
          clear hx hz
          go_wp2_with (first
            | (have hgo := HX; clear hgo
               refine wpList_index_py rfl (.tmp 29) (.tmp 30) rfl HI.out rfl rfl HX.out ?_
               clear HX)
            | (have hgo := HCP; clear hgo
               go_at_call 44
               refine (HCP.out _).mono ?_
               rintro e w5 ⟨rfl, rfl⟩
               clear HCP)
            | (refine wpList_store_py rfl (.tmp 37) (.tmp 36) rfl (fun k => if k < i + 1 then A k * 3303 % 3329 else A k) r_t1 HI.out rfl rfl HS.out ?_
               intro w7 q7 g7
               replace r_t2 := gb_rowIs r_t2 g7 (Ne.symm n_t1_t2)
               have Bw3 := Bw.grown g7 (HGS.out _ Bw) (by intro k hk; cases hk; exact l_t1)
               clear Bw g7 r_t1 HS))
          go_roundw
          case rel => exact ⟨i + 1, by omega, by go_num, q7, r_t2, Bw3⟩
          case measure => (simp [intOf]; try omega)
        · obtain rfl : i = 256 := by omega
          replace r_t1 : wr.rowIs b_t1 34 256 (pyF (invN f)) := pyF_congr r_t1 fun k hk => by
            show (if k < 256 then _ else _) = _
            rw [if_pos hk, HA.out]
            rfl
          have Bw0 := Bw
          clear Bw
          go_wp2_with (first
            | (have hgo := Bw0; clear hgo
               refine wpList_load_as rfl 34 (.tmp 1) rfl 256 (pyF (invN f)) arrP r_t1 rfl (by omega) (fun i hi => by rw [Nat.zero_add]) ?_
               have Bw1 := Bw0
               clear Bw0)
            | (have hgo := Bw1; clear hgo
               refine wpList_store_as rfl 34 (.tmp 2) (.tmp 39) rfl 256 (pyF (invN f)) arrP r_t2 rfl rfl (by omega) (fun _ _ => rfl) (fun i hi => putN_whole hi) ?_
               intro w602 q gk
               replace r_t1 := gb_rowIs r_t1 gk n_t1_t2
               replace r_t2 := q
               have Bw2 := zbg HGS Bw1 gk l_t2
               clear Bw1 gk q))
          exact ret_cell_as _ rfl arrP r_t2 rfl (by omega) (fun _ _ => rfl) rfl ⟨rfl, Bw2⟩
end Go.Proofs.YtflblaccfiigfabDoor

/- The program's polynomials: the product of two transforms. -/
namespace Go.Proofs.YtflblaccfiigfabDoor
open Go.RowKit Go.Deep
set_option linter.unusedSimpArgs false
set_option linter.unusedVariables false

theorem mul_even (a b c d z : Nat) : (a * b % 3329 + c * d % 3329 * z % 3329) % 3329 = (a % 3329 * (b % 3329) + c % 3329 * (d % 3329) % 3329 * z) % 3329 := by
  rw [← Nat.add_mod, Nat.add_mod (a % 3329 * (b % 3329)), ← Nat.mul_mod, ← Nat.mul_mod c, ← Nat.add_mod]
theorem mul_odd (a b c d : Nat) : (a * b % 3329 + c * d % 3329) % 3329 = (a % 3329 * (b % 3329) + c % 3329 * (d % 3329)) % 3329 := by
  rw [← Nat.add_mod, Nat.add_mod (a % 3329 * (b % 3329)), ← Nat.mul_mod, ← Nat.mul_mod c, ← Nat.add_mod]
set_option maxHeartbeats 4000000 in
set_option maxRecDepth 20000 in
theorem rMul_any (f g : Nat → Nat) (w : World) (hf : ∀ i, f i < 65536) (hg : ∀ i, g i < 65536) : Calls Tryd.prog 45 #[.agg (arrOf 256 (pyF f)), .agg (arrOf 256 (pyF g))] w fun e w' => e = .returned (.agg (arrOf 256 (pyF (mulN f g)))) ∧ Below w.heap.size w w' := by
  have Bw0 := Below.refl w.heap.size w
  have HGS : Hid (∀ wq : World, Below w.heap.size w wq → w.heap.size ≤ wq.heap.size) := Lib.hid fun wq h => h.size
  have Hf := Lib.hid hf
  have Hg := Lib.hid hg
  clear hf hg
  go_enter Tryd.func45, Tryd.ntmps45
  go_wp2_with (first
    | (have hgo := Bw0; clear hgo
       refine wpList_box_row rfl 34 (.tmp 0) rfl 256 (pyF f) rfl ?_
       intro b_t2 w1 lk r_t2 kk
       have l_t2 := zrl HGS Bw0 lk
       have Bw1 := zbt HGS Bw0 kk
       clear Bw0 kk lk)
    | (have hgo := Bw1; clear hgo
       refine wpList_box_row rfl 34 (.tmp 1) rfl 256 (pyF g) rfl ?_
       intro b_t3 w2 lk r_t3 kk
       have n_t2_t3 := zrn r_t2 lk
       have l_t3 := zrl HGS Bw1 lk
       replace r_t2 := zrb r_t2 kk
       have Bw2 := zbt HGS Bw1 kk
       clear Bw1 kk lk)
    | (have hgo := Bw2; clear hgo
       refine wpList_alloc_row rfl 34 rfl 256 (pyF fun _ => 0) zeroP ?_
       intro b_t4 w3 lk r_t4 kk
       have n_t2_t4 := zrn r_t2 lk
       have n_t3_t4 := zrn r_t3 lk
       have l_t4 := zrl HGS Bw2 lk
       replace r_t2 := zrb r_t2 kk
       replace r_t3 := zrb r_t3 kk
       have Bw3 := zbt HGS Bw2 kk
       clear Bw2 kk lk)
    | (have hgo := Bw3; clear hgo
       go_at_call 33
       refine (powers_any _).mono ?_
       rintro e w4 ⟨rfl, kk⟩
       replace r_t2 := zrb r_t2 kk
       replace r_t3 := zrb r_t3 kk
       replace r_t4 := zrb r_t4 kk
       have Bw4 := zbt HGS Bw3 kk
       clear Bw3 kk)
    | (have hgo := Bw4; clear hgo
       refine wpList_alloc_row rfl 33 rfl 256 (pyF fun _ => 0) zeroW ?_
       intro b_t5 w5 lk r_t5 kk
       have n_t2_t5 := zrn r_t2 lk
       have n_t3_t5 := zrn r_t3 lk
       have n_t4_t5 := zrn r_t4 lk
       have l_t5 := zrl HGS Bw4 lk
       replace r_t2 := zrb r_t2 kk
       replace r_t3 := zrb r_t3 kk
       replace r_t4 := zrb r_t4 kk
       have Bw5 := zbt HGS Bw4 kk
       clear Bw4 kk lk)
    | (have hgo := Bw5; clear hgo
       refine wpList_store_as rfl 33 (.tmp 5) (.tmp 9) rfl 256 (pyF (fun k => 17 ^ k % 3329)) arrW r_t5 rfl rfl (by omega) (fun _ _ => rfl) (fun i hi => putN_whole hi) ?_
       intro w6 q gk
       replace r_t2 := gb_rowIs r_t2 gk n_t2_t5
       replace r_t3 := gb_rowIs r_t3 gk n_t3_t5
       replace r_t4 := gb_rowIs r_t4 gk n_t4_t5
       replace r_t5 := q
       have Bw6 := zbg HGS Bw5 gk l_t5
       clear Bw5 gk q)
    | (have hgo := Bw6; clear hgo
       refine wpList_alloc_row rfl 34 rfl 256 (pyF fun _ => 0) zeroP ?_
       intro b_t6 w7 lk r_t6 kk
       have n_t2_t6 := zrn r_t2 lk
       have n_t3_t6 := zrn r_t3 lk
       have n_t4_t6 := zrn r_t4 lk
       have n_t5_t6 := zrn r_t5 lk
       have l_t6 := zrl HGS Bw6 lk
       replace r_t2 := zrb r_t2 kk
       replace r_t3 := zrb r_t3 kk
       replace r_t4 := zrb r_t4 kk
       replace r_t5 := zrb r_t5 kk
       have Bw7 := zbt HGS Bw6 kk
       clear Bw6 kk lk))
  go_loopw [7] (fun ii wr => ∃ h j : Nat, h ≤ 128 ∧ Hid (j = 2 * h) ∧ ii = .int .i64 (j : Int) ∧ wr.rowIs b_t2 34 256 (pyF f) ∧ wr.rowIs b_t3 34 256 (pyF g) ∧ wr.rowIs b_t4 34 256 (pyF fun _ => 0) ∧ wr.rowIs b_t5 33 256 (pyF fun k => 17 ^ k % 3329) ∧ wr.rowIs b_t6 34 256 (pyF fun k => if k < j then mulN f g k else 0) ∧ Below w.heap.size w wr) (fun ii _ => 256 - (intOf ii).toNat)
  case atStart => exact ⟨0, 0, Nat.zero_le _, Lib.hid rfl, rfl, r_t2, r_t3, r_t4, r_t5, pyF_congr r_t6 (fun k _ => (if_neg (by omega)).symm), Bw7⟩
  case round =>
    clear r_t2 r_t3 r_t4 r_t5 r_t6 Bw7
    obtain ⟨h, j, hh, HJH, rfl, r_t2, r_t3, r_t4, r_t5, r_t6, Bw⟩ := hrel
    by_cases hlt : h < 128
    · have hj := HJH.out
      have hjI2 : (j : Int) < 256 := by omega
      obtain ⟨j1, hj1⟩ := nat_var (j + 1)
      obtain ⟨j2, hj2⟩ := nat_var (j + 2)
      have hwj1 : IntKind.i64.wrap ((j : Int) + 1) = (j1 : Int) := by rw [IntWalk.i64_in _ (by omega)]; omega
      have hwj2 : IntKind.i64.wrap ((j : Int) + 2) = (j2 : Int) := by rw [IntWalk.i64_in _ (by omega)]; omega
      have hq1 : IntKind.i64.wrap ((j : Int).tdiv 2) = (h : Int) := by rw [Int.tdiv_eq_ediv_of_nonneg (by omega), IntWalk.i64_in _ (by omega)]; omega
      have hq2 : IntKind.i64.wrap ((j : Int) / 2) = (h : Int) := by rw [IntWalk.i64_in _ (by omega)]; omega
      obtain ⟨e0, he0⟩ := nat_var (rev7 h)
      obtain ⟨e2, he2⟩ := nat_var (2 * e0)
      obtain ⟨e1, he1⟩ := nat_var (e2 + 1)
      have he0l : e0 < 128 := by rw [he0]; exact rev7_lt h
      have hwe2 : IntKind.i64.wrap (2 * (e0 : Int)) = (e2 : Int) := by rw [IntWalk.i64_in _ (by omega)]; omega
      have hwe1 : IntKind.i64.wrap ((e2 : Int) + 1) = (e1 : Int) := by rw [IntWalk.i64_in _ (by omega)]; omega
      have he1I : 0 ≤ (e1 : Int) ∧ (e1 : Int) < 256 := by omega
      have HE1 : Hid (e1 < 256) := Lib.hid (by omega)
      obtain ⟨z, hz⟩ := nat_var (17 ^ e1 % 3329)
      have hzl : z < 65536 := by rw [hz]; exact Nat.lt_trans (Nat.mod_lt _ (by decide)) (by decide)
      have HRV := Lib.hid fun w => turned_any h e0 w hlt he0
      have HZZ : Hid ((fun k => 17 ^ k % 3329) e1 = z) := Lib.hid hz.symm
      obtain ⟨x0, hx0⟩ := nat_var (f j)
      obtain ⟨x1, hx1⟩ := nat_var (f j1)
      obtain ⟨y0, hy0⟩ := nat_var (g j)
      obtain ⟨y1, hy1⟩ := nat_var (g j1)
      have hx0l : x0 < 65536 := by rw [hx0]; exact Hf.out j
      have hx1l : x1 < 65536 := by rw [hx1]; exact Hf.out j1
      have hy0l : y0 < 65536 := by rw [hy0]; exact Hg.out j
      have hy1l : y1 < 65536 := by rw [hy1]; exact Hg.out j1
      obtain ⟨p, hp⟩ := nat_var (x0 * y0 % 3329)
      have hpl : p < 65536 := by omega
      have HC1 := Lib.hid fun w => rprod_any x0 y0 p w hx0l hy0l hp
      obtain ⟨q, hq⟩ := nat_var (x1 * y1 % 3329)
      have hql : q < 65536 := by omega
      have HC2 := Lib.hid fun w => rprod_any x1 y1 q w hx1l hy1l hq
      obtain ⟨s, hs⟩ := nat_var (q * z % 3329)
      have hsl : s < 65536 := by omega
      have HC3 := Lib.hid fun w => rprod_any q z s w hql hzl hs
      obtain ⟨u, hu⟩ := nat_var ((p + s) % 3329)
      have HC4 := Lib.hid fun w => rsum_any p s u w hpl hsl hu
      obtain ⟨p2, hp2⟩ := nat_var (x0 * y1 % 3329)
      have hp2l : p2 < 65536 := by omega
      have HC5 := Lib.hid fun w => rprod_any x0 y1 p2 w hx0l hy1l hp2
      obtain ⟨q2, hq2⟩ := nat_var (x1 * y0 % 3329)
      have hq2l : q2 < 65536 := by omega
      have HC6 := Lib.hid fun w => rprod_any x1 y0 q2 w hx1l hy0l hq2
      obtain ⟨u2, hu2⟩ := nat_var ((p2 + q2) % 3329)
      have HC7 := Lib.hid fun w => rsum_any p2 q2 u2 w hp2l hq2l hu2
      have hmu : mulN f g j = u := by
        unfold mulN
        rw [if_pos (by omega), show j / 2 = h by omega, ← hj1, ← hx0, ← hx1, ← hy0, ← hy1, ← he0, ← he2, ← he1, ← hz, ← mul_even, ← hp, ← hq, ← hs, ← hu]
      have hmu2 : mulN f g j1 = u2 := by
        unfold mulN
        rw [if_neg (by omega), show j1 - 1 = j by omega, ← hx0, ← hx1, ← hy0, ← hy1, ← mul_odd, ← hp2, ← hq2, ← hu2]
      have HS1 : Hid (∀ k, k < 256 → (fun k => if k < j1 then mulN f g k else 0) k = if k = j then u else (fun k => if k < j then mulN f g k else 0) k) := Lib.hid fun k hk => by
        show (if k < j1 then mulN f g k else 0) = if k = j then u else if k < j then mulN f g k else 0
        by_cases e : k = j
        · subst e; rw [if_pos (by omega), if_pos rfl, hmu]
        · rw [if_neg e]
          by_cases h2 : k < j
          · rw [if_pos h2, if_pos (by omega)]
          · rw [if_neg h2, if_neg (by omega)]
      have HS2 : Hid (∀ k, k < 256 → (fun k => if k < j2 then mulN f g k else 0) k = if k = j1 then u2 else (fun k => if k < j1 then mulN f g k else 0) k) := Lib.hid fun k hk => by
        show (if k < j2 then mulN f g k else 0) = if k = j1 then u2 else if k < j1 then mulN f g k else 0
        by_cases e : k = j1
        · subst e; rw [if_pos (by omega), if_pos rfl, hmu2]
        · rw [if_neg e]
          by_cases h2 : k < j1
          · rw [if_pos h2, if_pos (by omega)]
          · rw [if_neg h2, if_neg (by omega)]
      have HJ : Hid (j < 256) := Lib.hid (by omega)
      have HJ1 : Hid (j1 < 256) := Lib.hid (by omega)
      have HJ2 : Hid (j2 = 2 * (h + 1)) := Lib.hid (by omega)
      have HMS : Hid (256 - j2 < 256 - j) := Lib.hid (by omega)
      have HX0 := Lib.hid hx0.symm
      have HX1 := Lib.hid hx1.symm
      have HY0 := Lib.hid hy0.symm
      have HY1 := Lib.hid hy1.symm
      have HWJ := Lib.hid hwj1
      have HH : Hid (h + 1 ≤ 128) := Lib.hid hlt
      clear hx0 hx1 hy0 hy1 hp hq hs hu hp2 hq2 hu2 hmu hmu2 hz he0 he1 he2 hj hj1 hj2 hx0l hx1l hy0l hy1l hpl hql hsl hp2l hq2l hzl hh hlt
      go_wp2_with (first
        | (have hgo := HRV; clear hgo
           go_at_call 35
           refine (HRV.out _).mono ?_
           rintro e w5 ⟨rfl, rfl⟩
           clear HRV)
        | (have hgo := HZZ; clear hgo
           refine wpList_load_py rfl (.tmp 19) rfl r_t5 HE1.out rfl HZZ.out ?_
           clear HZZ))
      replace r_t2 := World.rowIs.drew r_t2
      replace r_t3 := World.rowIs.drew r_t3
      replace r_t4 := World.rowIs.drew r_t4
      replace r_t5 := World.rowIs.drew r_t5
      replace r_t6 := World.rowIs.drew r_t6
      replace Bw := Bw.drew
      refine le_start [(0, some [21]), (1, some [21]), (2, some [21]), (3, some [7]), (4, some [21]), (5, some [21]), (6, some [7]), (8, some [21]), (9, some [21]), (10, some [21]), (11, some [16]), (12, some [21]), (13, some [21]), (14, some [21]), (15, some [16]), (17, some [18]), (7, none), (16, none), (18, none), (19, none), (20, some [21]), (21, none)] 1000 (by kernel_rfl) (by kernel_rfl) (by decide) (by kernel_rfl) (fun d _ _ _ _ h => by cases d <;> exact h) ?_
      refine le_rd 21 (.int .i64 (j : Int)) rfl rfl rfl rfl rfl rfl (x_move rfl) ?_
      simp only [Act.put, zA, zB, zC]
      refine le_rd 22 (.int .i64 (j : Int)) rfl rfl rfl rfl rfl rfl (x_move rfl) ?_
      simp only [Act.put, zA, zB, zC]
      refine le_rd 23 (.pointer (some ⟨b_t2, j, none⟩)) rfl rfl rfl rfl rfl rfl (x_ia rfl rfl HJ.out _) ?_
      simp only [Act.put, zA, zB, zC]
      refine le_rd 24 (.int .u16 (x0 : Int)) rfl rfl rfl rfl rfl rfl (x_ld rfl r_t2 HJ.out HX0.out) ?_
      simp only [Act.put, zA, zB, zC]
      refine le_rd 25 (.int .i64 (j : Int)) rfl rfl rfl rfl rfl rfl (x_move rfl) ?_
      simp only [Act.put, zA, zB, zC]
      refine le_rd 26 (.pointer (some ⟨b_t3, j, none⟩)) rfl rfl rfl rfl rfl rfl (x_ia rfl rfl HJ.out _) ?_
      simp only [Act.put, zA, zB, zC]
      refine le_rd 27 (.int .u16 (y0 : Int)) rfl rfl rfl rfl rfl rfl (x_ld rfl r_t3 HJ.out HY0.out) ?_
      simp only [Act.put, zA, zB, zC]
      refine le_rd 29 (.int .i64 (j : Int)) rfl rfl rfl rfl rfl rfl (x_move rfl) ?_
      simp only [Act.put, zA, zB, zC]
      refine le_rd 30 (.int .i64 (j1 : Int)) rfl rfl rfl rfl rfl rfl (x_add rfl rfl HWJ.out _) ?_
      simp only [Act.put, zA, zB, zC]
      refine le_rd 31 (.pointer (some ⟨b_t2, j1, none⟩)) rfl rfl rfl rfl rfl rfl (x_ia rfl rfl HJ1.out _) ?_
      simp only [Act.put, zA, zB, zC]
      refine le_rd 32 (.int .u16 (x1 : Int)) rfl rfl rfl rfl rfl rfl (x_ld rfl r_t2 HJ1.out HX1.out) ?_
      simp only [Act.put, zA, zB, zC]
      refine le_rd 33 (.int .i64 (j : Int)) rfl rfl rfl rfl rfl rfl (x_move rfl) ?_
      simp only [Act.put, zA, zB, zC]
      refine le_rd 34 (.int .i64 (j1 : Int)) rfl rfl rfl rfl rfl rfl (x_add rfl rfl HWJ.out _) ?_
      simp only [Act.put, zA, zB, zC]
      refine le_rd 35 (.pointer (some ⟨b_t3, j1, none⟩)) rfl rfl rfl rfl rfl rfl (x_ia rfl rfl HJ1.out _) ?_
      simp only [Act.put, zA, zB, zC]
      refine le_rd 36 (.int .u16 (y1 : Int)) rfl rfl rfl rfl rfl rfl (x_ld rfl r_t3 HJ1.out HY1.out) ?_
      simp only [Act.put, zA, zB, zC]
      refine le_rd 38 (.int .u16 (z : Int)) rfl rfl rfl rfl rfl rfl (x_move rfl) ?_
      simp only [Act.put, zA, zB, zC]
      refine le_call 28 (HC1.out) rfl rfl rfl rfl Tryd.func44 (by kernel_rfl) (by kernel_rfl) (ar2 rfl rfl) ?_
      simp only [Act.put, zA, zB, zC]
      refine le_call 37 (HC2.out) rfl rfl rfl rfl Tryd.func44 (by kernel_rfl) (by kernel_rfl) (ar2 rfl rfl) ?_
      simp only [Act.put, zA, zB, zC]
      refine le_call 39 (HC3.out) rfl rfl rfl rfl Tryd.func44 (by kernel_rfl) (by kernel_rfl) (ar2 rfl rfl) ?_
      simp only [Act.put, zA, zB, zC]
      refine le_call 40 (HC4.out) rfl rfl rfl rfl Tryd.func38 (by kernel_rfl) (by kernel_rfl) (ar2 rfl rfl) ?_
      simp only [Act.put, zA, zB, zC]
      refine le_rd 41 (.pointer (some ⟨b_t6, j, none⟩)) rfl rfl rfl rfl rfl rfl (x_ia rfl rfl HJ.out _) ?_
      simp only [Act.put, zA, zB, zC]
      refine le_store (fun k => if k < j1 then mulN f g k else 0) rfl rfl rfl rfl rfl rfl r_t6 HJ.out rfl rfl HS1.out ?_
      intro w7 q gk
      replace r_t2 := gb_rowIs r_t2 gk n_t2_t6
      replace r_t3 := gb_rowIs r_t3 gk n_t3_t6
      replace r_t4 := gb_rowIs r_t4 gk n_t4_t6
      replace r_t5 := gb_rowIs r_t5 gk n_t5_t6
      replace Bw := Bw.grown gk (HGS.out _ Bw) (by intro k hk; cases hk; exact l_t6)
      replace r_t6 := q
      clear gk q HS1
      refine le_end ?_
      go_wp2
      replace r_t2 := World.rowIs.drew r_t2
      replace r_t3 := World.rowIs.drew r_t3
      replace r_t4 := World.rowIs.drew r_t4
      replace r_t5 := World.rowIs.drew r_t5
      replace r_t6 := World.rowIs.drew r_t6
      replace Bw := Bw.drew
      refine le_start [(0, some [20]), (1, some [20]), (2, some [20]), (3, some [20]), (4, some [9]), (5, some [20]), (6, some [20]), (7, some [20]), (8, some [9]), (10, some [20]), (11, some [20]), (12, some [20]), (13, some [17]), (14, some [20]), (15, some [20]), (16, some [17]), (9, none), (17, none), (18, none), (19, some [20]), (20, none)] 1000 (by kernel_rfl) (by kernel_rfl) (by decide) (by kernel_rfl) (fun d _ _ _ _ h => by cases d <;> exact h) ?_
      refine le_rd 42 (.int .i64 (j : Int)) rfl rfl rfl rfl rfl rfl (x_move rfl) ?_
      simp only [Act.put, zA, zB, zC]
      refine le_rd 43 (.int .i64 (j1 : Int)) rfl rfl rfl rfl rfl rfl (x_add rfl rfl HWJ.out _) ?_
      simp only [Act.put, zA, zB, zC]
      refine le_rd 44 (.int .i64 (j : Int)) rfl rfl rfl rfl rfl rfl (x_move rfl) ?_
      simp only [Act.put, zA, zB, zC]
      refine le_rd 45 (.pointer (some ⟨b_t2, j, none⟩)) rfl rfl rfl rfl rfl rfl (x_ia rfl rfl HJ.out _) ?_
      simp only [Act.put, zA, zB, zC]
      refine le_rd 46 (.int .u16 (x0 : Int)) rfl rfl rfl rfl rfl rfl (x_ld rfl r_t2 HJ.out HX0.out) ?_
      simp only [Act.put, zA, zB, zC]
      refine le_rd 47 (.int .i64 (j : Int)) rfl rfl rfl rfl rfl rfl (x_move rfl) ?_
      simp only [Act.put, zA, zB, zC]
      refine le_rd 48 (.int .i64 (j1 : Int)) rfl rfl rfl rfl rfl rfl (x_add rfl rfl HWJ.out _) ?_
      simp only [Act.put, zA, zB, zC]
      refine le_rd 49 (.pointer (some ⟨b_t3, j1, none⟩)) rfl rfl rfl rfl rfl rfl (x_ia rfl rfl HJ1.out _) ?_
      simp only [Act.put, zA, zB, zC]
      refine le_rd 50 (.int .u16 (y1 : Int)) rfl rfl rfl rfl rfl rfl (x_ld rfl r_t3 HJ1.out HY1.out) ?_
      simp only [Act.put, zA, zB, zC]
      refine le_rd 52 (.int .i64 (j : Int)) rfl rfl rfl rfl rfl rfl (x_move rfl) ?_
      simp only [Act.put, zA, zB, zC]
      refine le_rd 53 (.int .i64 (j1 : Int)) rfl rfl rfl rfl rfl rfl (x_add rfl rfl HWJ.out _) ?_
      simp only [Act.put, zA, zB, zC]
      refine le_rd 54 (.pointer (some ⟨b_t2, j1, none⟩)) rfl rfl rfl rfl rfl rfl (x_ia rfl rfl HJ1.out _) ?_
      simp only [Act.put, zA, zB, zC]
      refine le_rd 55 (.int .u16 (x1 : Int)) rfl rfl rfl rfl rfl rfl (x_ld rfl r_t2 HJ1.out HX1.out) ?_
      simp only [Act.put, zA, zB, zC]
      refine le_rd 56 (.int .i64 (j : Int)) rfl rfl rfl rfl rfl rfl (x_move rfl) ?_
      simp only [Act.put, zA, zB, zC]
      refine le_rd 57 (.pointer (some ⟨b_t3, j, none⟩)) rfl rfl rfl rfl rfl rfl (x_ia rfl rfl HJ.out _) ?_
      simp only [Act.put, zA, zB, zC]
      refine le_rd 58 (.int .u16 (y0 : Int)) rfl rfl rfl rfl rfl rfl (x_ld rfl r_t3 HJ.out HY0.out) ?_
      simp only [Act.put, zA, zB, zC]
      refine le_call 51 (HC5.out) rfl rfl rfl rfl Tryd.func44 (by kernel_rfl) (by kernel_rfl) (ar2 rfl rfl) ?_
      simp only [Act.put, zA, zB, zC]
      refine le_call 59 (HC6.out) rfl rfl rfl rfl Tryd.func44 (by kernel_rfl) (by kernel_rfl) (ar2 rfl rfl) ?_
      simp only [Act.put, zA, zB, zC]
      refine le_call 60 (HC7.out) rfl rfl rfl rfl Tryd.func38 (by kernel_rfl) (by kernel_rfl) (ar2 rfl rfl) ?_
      simp only [Act.put, zA, zB, zC]
      refine le_rd 61 (.pointer (some ⟨b_t6, j1, none⟩)) rfl rfl rfl rfl rfl rfl (x_ia rfl rfl HJ1.out _) ?_
      simp only [Act.put, zA, zB, zC]
      refine le_store (fun k => if k < j2 then mulN f g k else 0) rfl rfl rfl rfl rfl rfl r_t6 HJ1.out rfl rfl HS2.out ?_
      intro w8 q gk
      replace r_t2 := gb_rowIs r_t2 gk n_t2_t6
      replace r_t3 := gb_rowIs r_t3 gk n_t3_t6
      replace r_t4 := gb_rowIs r_t4 gk n_t4_t6
      replace r_t5 := gb_rowIs r_t5 gk n_t5_t6
      replace Bw := Bw.grown gk (HGS.out _ Bw) (by intro k hk; cases hk; exact l_t6)
      replace r_t6 := q
      clear gk q HS2
      refine le_end ?_
      go_wp2
      go_roundw
      case rel => exact ⟨h + 1, j2, HH.out, HJ2, rfl, r_t2, r_t3, r_t4, r_t5, r_t6, Bw⟩
      case measure => (have := HMS.out; simp [intOf]; try omega)
    · have hj := HJH.out
      have hjI : ¬ (j : Int) < 256 := by omega
      replace r_t6 : wr.rowIs b_t6 34 256 (pyF (mulN f g)) := pyF_congr r_t6 fun k hk => if_pos (by omega)
      have Bw0 := Bw
      clear Bw hj
      go_wp2_with (first
        | (have hgo := Bw0; clear hgo
           refine wpList_load_as rfl 34 (.tmp 6) rfl 256 (pyF (mulN f g)) arrP r_t6 rfl (by omega) (fun i hi => by rw [Nat.zero_add]) ?_
           have Bw1 := Bw0
           clear Bw0)
        | (have hgo := Bw1; clear hgo
           refine wpList_store_as rfl 34 (.tmp 4) (.tmp 62) rfl 256 (pyF (mulN f g)) arrP r_t4 rfl rfl (by omega) (fun _ _ => rfl) (fun i hi => putN_whole hi) ?_
           intro w502 q gk
           replace r_t2 := gb_rowIs r_t2 gk n_t2_t4
           replace r_t3 := gb_rowIs r_t3 gk n_t3_t4
           replace r_t5 := gb_rowIs r_t5 gk (Ne.symm n_t4_t5)
           replace r_t6 := gb_rowIs r_t6 gk (Ne.symm n_t4_t6)
           replace r_t4 := q
           have Bw2 := zbg HGS Bw1 gk l_t4
           clear Bw1 gk q))
      exact ret_cell_as _ rfl arrP r_t4 rfl (by omega) (fun _ _ => rfl) rfl ⟨rfl, Bw2⟩
end Go.Proofs.YtflblaccfiigfabDoor

/- The document's polynomials: the product mod x^256 + 1, place by place. -/
namespace Go.Proofs.YtflblaccfiigfabDoor
open Go.RowKit Go.Deep
set_option linter.unusedSimpArgs false
set_option linter.unusedVariables false

end Go.Proofs.YtflblaccfiigfabDoor

/- The document's polynomials: the laws of the transform in natural numbers. -/
set_option linter.unusedSimpArgs false
set_option linter.unusedVariables false
namespace Go.Proofs.YtflblaccfiigfabDoor
open Go.RowKit Go.Deep

theorem mulN_lt (f g : Nat → Nat) (k : Nat) : mulN f g k < 3329 := by
  unfold mulN
  split <;> exact Nat.mod_lt _ (by decide)
end Go.Proofs.YtflblaccfiigfabDoor

/- Rows of three polynomials: each, both, folded, inner, scaled. -/
namespace Go.Proofs.YtflblaccfiigfabDoor
open Go.RowKit Go.Deep
set_option linter.unusedSimpArgs false
set_option linter.unusedVariables false

theorem arrRow : IsArr Tryd.prog 36 768 := ⟨by kernel_rfl, by kernel_rfl⟩
theorem zeroRow : (Tryd.prog.info? 36).map (fun i => i.zero) = some (some (.agg (arrOf 768 (p3F fun _ _ => 0)))) := by kernel_rfl
def sumN (f g : Nat → Nat) (k : Nat) : Nat := (f k + g k) % 3329
theorem sumN_lt (f g : Nat → Nat) (k : Nat) : sumN f g k < 3329 := Nat.mod_lt _ (by decide)
theorem pAdd_any (f g : Nat → Nat) (w : World) (hf : ∀ i, f i < 65536) (hg : ∀ i, g i < 65536) : Calls Tryd.prog 20 #[.agg (arrOf 256 (pyF f)), .agg (arrOf 256 (pyF g))] w fun e w' => e = .returned (.agg (arrOf 256 (pyF (sumN f g)))) ∧ Below w.heap.size w w' := rAdd_any f g w hf hg
theorem lt16 {f : Nat → Nat} (h : ∀ i, f i < 3329) (i : Nat) : f i < 65536 := Nat.lt_trans (h i) (by decide)
/-- The sum of the products of two rows. -/
def inN (f g : Nat → Nat → Nat) : Nat → Nat := sumN (sumN (mulN (f 0) (g 0)) (mulN (f 1) (g 1))) (mulN (f 2) (g 2))
theorem inN_lt (f g : Nat → Nat → Nat) (k : Nat) : inN f g k < 3329 := sumN_lt _ _ k
def cmpN (d : Nat) (f : Nat → Nat) (k : Nat) : Nat := (f k % 3329 * 2 ^ d + 1664) / 3329 % 2 ^ d
theorem cmpN_lt (d : Nat) (f : Nat → Nat) (hd : d ≤ 11) (k : Nat) : cmpN d f k < 3329 := Nat.lt_trans (Nat.lt_of_lt_of_le (Nat.mod_lt _ (Nat.pow_pos (by decide))) (Nat.pow_le_pow_right (by decide) hd)) (by decide)
set_option maxHeartbeats 4000000 in
set_option maxRecDepth 20000 in
theorem eachNTT_any (f : Nat → Nat → Nat) (w : World) (hf : ∀ i j, f i j < 65536) : Calls Tryd.prog 15 #[.agg (arrOf 768 (p3F f)), .func (.func 16) #[] #[]] w fun e w' => e = .returned (.agg (arrOf 768 (p3F fun i => nttN (f i)))) ∧ Below w.heap.size w w' := by
  have Bw0 := Below.refl w.heap.size w
  have HGS : Hid (∀ wq : World, Below w.heap.size w wq → w.heap.size ≤ wq.heap.size) := Lib.hid fun wq h => h.size
  have Hf := Lib.hid hf
  clear hf
  go_enter Tryd.func15, Tryd.ntmps15
  go_wp2_with (first
    | (have hgo := Bw0; clear hgo
       refine wpList_box_row rfl 36 (.tmp 0) rfl 768 (p3F f) rfl ?_
       intro b_t2 w1 lk r_t2 kk
       have l_t2 := zrl HGS Bw0 lk
       have Bw1 := zbt HGS Bw0 kk
       clear Bw0 kk lk)
    | (have hgo := Bw1; clear hgo
       refine wpList_alloc_row rfl 36 rfl 768 (p3F fun _ _ => 0) zeroRow ?_
       intro b_t4 w2 lk r_t4 kk
       have n_t2_t4 := zrn r_t2 lk
       have l_t4 := zrl HGS Bw1 lk
       replace r_t2 := zrb r_t2 kk
       have Bw2 := zbt HGS Bw1 kk
       clear Bw1 kk lk)
    | (have hgo := Bw2; clear hgo
       refine wpList_load_as rfl 36 (.tmp 2) rfl 768 (p3F f) arrRow r_t2 rfl (by omega) (fun i hi => by rw [Nat.zero_add]) ?_
       have Bw3 := Bw2
       clear Bw2))
  go_loopw [8] (fun iv wr => ∃ k : Nat, k ≤ 3 ∧ iv = .int .i64 (k : Int) ∧ wr.rowIs b_t2 36 768 (p3F (upR (fun i => nttN (f i)) f k)) ∧ wr.rowIs b_t4 36 768 (p3F fun _ _ => 0) ∧ Below w.heap.size w wr) (fun iv _ => 3 - (intOf iv).toNat)
  case atStart => exact ⟨0, by decide, rfl, by rw [upR_zero]; exact r_t2, r_t4, Bw3⟩
  case round =>
    clear r_t2  r_t4 Bw3
    obtain ⟨k, hk, rfl, r_t2, r_t4, Bw0⟩ := hrel
    by_cases hlt : k < 3
    · have hkI : 0 ≤ (k : Int) ∧ (k : Int) < 3 := by omega
      have HK := Lib.hid hlt
      clear hk hlt
      go_wp2_with (first
        | (have hgo := Bw0; clear hgo
           refine wpList_index_rows rfl 36 34 (.tmp 7) (.tmp 8) rfl 3 256 (by kernel_rfl) arrP rfl rfl HK.out (by decide) (p3_part f k) ?_
           have Bw1 := Bw0
           clear Bw0)
        | (have hgo := Bw1; clear hgo
           refine wpList_alloc_row rfl 34 rfl 256 (pyF fun _ => 0) zeroP ?_
           intro b_t6 w303 lk r_t6 kk
           have n_t2_t6 := zrn r_t2 lk
           have n_t4_t6 := zrn r_t4 lk
           have l_t6 := zrl HGS Bw1 lk
           replace r_t2 := zrb r_t2 kk
           replace r_t4 := zrb r_t4 kk
           have Bw2 := zbt HGS Bw1 kk
           clear Bw1 kk lk)
        | (have hgo := Bw2; clear hgo
           refine wpList_store_as rfl 34 (.tmp 6) (.tmp 11) rfl 256 (pyF (f k)) arrP r_t6 rfl rfl (by omega) (fun _ _ => rfl) (fun i hi => putN_whole hi) ?_
           intro w305 q gk
           replace r_t2 := gb_rowIs r_t2 gk n_t2_t6
           replace r_t4 := gb_rowIs r_t4 gk n_t4_t6
           replace r_t6 := q
           have Bw3 := zbg HGS Bw2 gk l_t6
           clear Bw2 gk q)
        | (have hgo := Bw3; clear hgo
           refine wpList_load_as rfl 34 (.tmp 6) rfl 256 (pyF (f k)) arrP r_t6 rfl (by omega) (fun i hi => by rw [Nat.zero_add]) ?_
           have Bw4 := Bw3
           clear Bw3)
        | (have hgo := Bw4; clear hgo
           go_at_call 16
           refine (rNTT_any (f k) _ (Hf.out k)).mono ?_
           rintro e w309 ⟨rfl, kk⟩
           replace r_t2 := zrb r_t2 kk
           replace r_t4 := zrb r_t4 kk
           replace r_t6 := zrb r_t6 kk
           have Bw5 := zbt HGS Bw4 kk
           clear Bw4 kk)
        | (have hgo := Bw5; clear hgo
           refine wpList_store_as rfl 34 (.tmp 16) (.tmp 15) rfl 256 (p3F (upR (fun i => nttN (f i)) f (k + 1))) arrP r_t2 rfl rfl (by have := HK.out; omega) (fun _ _ => rfl) (p3_put (rfl)) ?_
           intro w311 q gk
           replace r_t4 := gb_rowIs r_t4 gk (Ne.symm n_t2_t4)
           replace r_t6 := gb_rowIs r_t6 gk (Ne.symm n_t2_t6)
           replace r_t2 := q
           have Bw6 := zbg HGS Bw5 gk l_t2
           clear Bw5 gk q))
      go_roundw
      case rel => exact ⟨k + 1, HK.out, by have := HK.out; go_num, r_t2, r_t4, Bw6⟩
      case measure => (have := HK.out; simp [intOf]; try omega)
    · obtain rfl : k = 3 := by omega
      replace r_t2 := World.rowIs.congr r_t2 (p3_done (fun i => nttN (f i)) f)
      go_wp2_with (first
        | (have hgo := Bw0; clear hgo
           refine wpList_load_as rfl 36 (.tmp 2) rfl 768 (p3F (fun i => nttN (f i))) arrRow r_t2 rfl (by omega) (fun i hi => by rw [Nat.zero_add]) ?_
           have Bw1 := Bw0
           clear Bw0)
        | (have hgo := Bw1; clear hgo
           refine wpList_store_as rfl 36 (.tmp 4) (.tmp 18) rfl 768 (p3F (fun i => nttN (f i))) arrRow r_t4 rfl rfl (by omega) (fun _ _ => rfl) (fun i hi => putN_whole hi) ?_
           intro w602 q gk
           replace r_t2 := gb_rowIs r_t2 gk n_t2_t4
           replace r_t4 := q
           have Bw2 := zbg HGS Bw1 gk l_t4
           clear Bw1 gk q))
      exact ret_cell_as _ rfl arrRow r_t4 rfl (by omega) (fun _ _ => rfl) rfl ⟨rfl, Bw2⟩
set_option maxHeartbeats 4000000 in
set_option maxRecDepth 20000 in
theorem eachInv_any (f : Nat → Nat → Nat) (w : World) (hf : ∀ i j, f i j < 65536) : Calls Tryd.prog 15 #[.agg (arrOf 768 (p3F f)), .func (.func 26) #[] #[]] w fun e w' => e = .returned (.agg (arrOf 768 (p3F fun i => invN (f i)))) ∧ Below w.heap.size w w' := by
  have Bw0 := Below.refl w.heap.size w
  have HGS : Hid (∀ wq : World, Below w.heap.size w wq → w.heap.size ≤ wq.heap.size) := Lib.hid fun wq h => h.size
  have Hf := Lib.hid hf
  clear hf
  go_enter Tryd.func15, Tryd.ntmps15
  go_wp2_with (first
    | (have hgo := Bw0; clear hgo
       refine wpList_box_row rfl 36 (.tmp 0) rfl 768 (p3F f) rfl ?_
       intro b_t2 w1 lk r_t2 kk
       have l_t2 := zrl HGS Bw0 lk
       have Bw1 := zbt HGS Bw0 kk
       clear Bw0 kk lk)
    | (have hgo := Bw1; clear hgo
       refine wpList_alloc_row rfl 36 rfl 768 (p3F fun _ _ => 0) zeroRow ?_
       intro b_t4 w2 lk r_t4 kk
       have n_t2_t4 := zrn r_t2 lk
       have l_t4 := zrl HGS Bw1 lk
       replace r_t2 := zrb r_t2 kk
       have Bw2 := zbt HGS Bw1 kk
       clear Bw1 kk lk)
    | (have hgo := Bw2; clear hgo
       refine wpList_load_as rfl 36 (.tmp 2) rfl 768 (p3F f) arrRow r_t2 rfl (by omega) (fun i hi => by rw [Nat.zero_add]) ?_
       have Bw3 := Bw2
       clear Bw2))
  go_loopw [8] (fun iv wr => ∃ k : Nat, k ≤ 3 ∧ iv = .int .i64 (k : Int) ∧ wr.rowIs b_t2 36 768 (p3F (upR (fun i => invN (f i)) f k)) ∧ wr.rowIs b_t4 36 768 (p3F fun _ _ => 0) ∧ Below w.heap.size w wr) (fun iv _ => 3 - (intOf iv).toNat)
  case atStart => exact ⟨0, by decide, rfl, by rw [upR_zero]; exact r_t2, r_t4, Bw3⟩
  case round =>
    clear r_t2  r_t4 Bw3
    obtain ⟨k, hk, rfl, r_t2, r_t4, Bw0⟩ := hrel
    by_cases hlt : k < 3
    · have hkI : 0 ≤ (k : Int) ∧ (k : Int) < 3 := by omega
      have HK := Lib.hid hlt
      clear hk hlt
      go_wp2_with (first
        | (have hgo := Bw0; clear hgo
           refine wpList_index_rows rfl 36 34 (.tmp 7) (.tmp 8) rfl 3 256 (by kernel_rfl) arrP rfl rfl HK.out (by decide) (p3_part f k) ?_
           have Bw1 := Bw0
           clear Bw0)
        | (have hgo := Bw1; clear hgo
           refine wpList_alloc_row rfl 34 rfl 256 (pyF fun _ => 0) zeroP ?_
           intro b_t6 w303 lk r_t6 kk
           have n_t2_t6 := zrn r_t2 lk
           have n_t4_t6 := zrn r_t4 lk
           have l_t6 := zrl HGS Bw1 lk
           replace r_t2 := zrb r_t2 kk
           replace r_t4 := zrb r_t4 kk
           have Bw2 := zbt HGS Bw1 kk
           clear Bw1 kk lk)
        | (have hgo := Bw2; clear hgo
           refine wpList_store_as rfl 34 (.tmp 6) (.tmp 11) rfl 256 (pyF (f k)) arrP r_t6 rfl rfl (by omega) (fun _ _ => rfl) (fun i hi => putN_whole hi) ?_
           intro w305 q gk
           replace r_t2 := gb_rowIs r_t2 gk n_t2_t6
           replace r_t4 := gb_rowIs r_t4 gk n_t4_t6
           replace r_t6 := q
           have Bw3 := zbg HGS Bw2 gk l_t6
           clear Bw2 gk q)
        | (have hgo := Bw3; clear hgo
           refine wpList_load_as rfl 34 (.tmp 6) rfl 256 (pyF (f k)) arrP r_t6 rfl (by omega) (fun i hi => by rw [Nat.zero_add]) ?_
           have Bw4 := Bw3
           clear Bw3)
        | (have hgo := Bw4; clear hgo
           go_at_call 26
           refine (rInverse_any (f k) _ (Hf.out k)).mono ?_
           rintro e w309 ⟨rfl, kk⟩
           replace r_t2 := zrb r_t2 kk
           replace r_t4 := zrb r_t4 kk
           replace r_t6 := zrb r_t6 kk
           have Bw5 := zbt HGS Bw4 kk
           clear Bw4 kk)
        | (have hgo := Bw5; clear hgo
           refine wpList_store_as rfl 34 (.tmp 16) (.tmp 15) rfl 256 (p3F (upR (fun i => invN (f i)) f (k + 1))) arrP r_t2 rfl rfl (by have := HK.out; omega) (fun _ _ => rfl) (p3_put (rfl)) ?_
           intro w311 q gk
           replace r_t4 := gb_rowIs r_t4 gk (Ne.symm n_t2_t4)
           replace r_t6 := gb_rowIs r_t6 gk (Ne.symm n_t2_t6)
           replace r_t2 := q
           have Bw6 := zbg HGS Bw5 gk l_t2
           clear Bw5 gk q))
      go_roundw
      case rel => exact ⟨k + 1, HK.out, by have := HK.out; go_num, r_t2, r_t4, Bw6⟩
      case measure => (have := HK.out; simp [intOf]; try omega)
    · obtain rfl : k = 3 := by omega
      replace r_t2 := World.rowIs.congr r_t2 (p3_done (fun i => invN (f i)) f)
      go_wp2_with (first
        | (have hgo := Bw0; clear hgo
           refine wpList_load_as rfl 36 (.tmp 2) rfl 768 (p3F (fun i => invN (f i))) arrRow r_t2 rfl (by omega) (fun i hi => by rw [Nat.zero_add]) ?_
           have Bw1 := Bw0
           clear Bw0)
        | (have hgo := Bw1; clear hgo
           refine wpList_store_as rfl 36 (.tmp 4) (.tmp 18) rfl 768 (p3F (fun i => invN (f i))) arrRow r_t4 rfl rfl (by omega) (fun _ _ => rfl) (fun i hi => putN_whole hi) ?_
           intro w602 q gk
           replace r_t2 := gb_rowIs r_t2 gk n_t2_t4
           replace r_t4 := q
           have Bw2 := zbg HGS Bw1 gk l_t4
           clear Bw1 gk q))
      exact ret_cell_as _ rfl arrRow r_t4 rfl (by omega) (fun _ _ => rfl) rfl ⟨rfl, Bw2⟩
set_option maxHeartbeats 4000000 in
set_option maxRecDepth 20000 in
theorem bothAdd_any (f g : Nat → Nat → Nat) (w : World) (hf : ∀ i j, f i j < 65536) (hg : ∀ i j, g i j < 65536) : Calls Tryd.prog 19 #[.agg (arrOf 768 (p3F f)), .agg (arrOf 768 (p3F g)), .func (.func 20) #[] #[]] w fun e w' => e = .returned (.agg (arrOf 768 (p3F fun i => sumN (f i) (g i)))) ∧ Below w.heap.size w w' := by
  have Bw0 := Below.refl w.heap.size w
  have HGS : Hid (∀ wq : World, Below w.heap.size w wq → w.heap.size ≤ wq.heap.size) := Lib.hid fun wq h => h.size
  have Hf := Lib.hid hf
  have Hg := Lib.hid hg
  clear hf hg
  go_enter Tryd.func19, Tryd.ntmps19
  go_wp2_with (first
    | (have hgo := Bw0; clear hgo
       refine wpList_box_row rfl 36 (.tmp 0) rfl 768 (p3F f) rfl ?_
       intro b_t3 w1 lk r_t3 kk
       have l_t3 := zrl HGS Bw0 lk
       have Bw1 := zbt HGS Bw0 kk
       clear Bw0 kk lk)
    | (have hgo := Bw1; clear hgo
       refine wpList_box_row rfl 36 (.tmp 1) rfl 768 (p3F g) rfl ?_
       intro b_t4 w2 lk r_t4 kk
       have n_t3_t4 := zrn r_t3 lk
       have l_t4 := zrl HGS Bw1 lk
       replace r_t3 := zrb r_t3 kk
       have Bw2 := zbt HGS Bw1 kk
       clear Bw1 kk lk)
    | (have hgo := Bw2; clear hgo
       refine wpList_alloc_row rfl 36 rfl 768 (p3F fun _ _ => 0) zeroRow ?_
       intro b_t6 w3 lk r_t6 kk
       have n_t3_t6 := zrn r_t3 lk
       have n_t4_t6 := zrn r_t4 lk
       have l_t6 := zrl HGS Bw2 lk
       replace r_t3 := zrb r_t3 kk
       replace r_t4 := zrb r_t4 kk
       have Bw3 := zbt HGS Bw2 kk
       clear Bw2 kk lk)
    | (have hgo := Bw3; clear hgo
       refine wpList_load_as rfl 36 (.tmp 3) rfl 768 (p3F f) arrRow r_t3 rfl (by omega) (fun i hi => by rw [Nat.zero_add]) ?_
       have Bw4 := Bw3
       clear Bw3))
  go_loopw [10] (fun iv wr => ∃ k : Nat, k ≤ 3 ∧ iv = .int .i64 (k : Int) ∧ wr.rowIs b_t3 36 768 (p3F (upR (fun i => sumN (f i) (g i)) f k)) ∧ wr.rowIs b_t4 36 768 (p3F g) ∧ wr.rowIs b_t6 36 768 (p3F fun _ _ => 0) ∧ Below w.heap.size w wr) (fun iv _ => 3 - (intOf iv).toNat)
  case atStart => exact ⟨0, by decide, rfl, by rw [upR_zero]; exact r_t3, r_t4, r_t6, Bw4⟩
  case round =>
    clear r_t3  r_t4 r_t6 Bw4
    obtain ⟨k, hk, rfl, r_t3, r_t4, r_t6, Bw0⟩ := hrel
    by_cases hlt : k < 3
    · have hkI : 0 ≤ (k : Int) ∧ (k : Int) < 3 := by omega
      have HK := Lib.hid hlt
      clear hk hlt
      go_wp2_with (first
        | (have hgo := Bw0; clear hgo
           refine wpList_index_rows rfl 36 34 (.tmp 9) (.tmp 10) rfl 3 256 (by kernel_rfl) arrP rfl rfl HK.out (by decide) (p3_part f k) ?_
           have Bw1 := Bw0
           clear Bw0)
        | (have hgo := Bw1; clear hgo
           refine wpList_alloc_row rfl 34 rfl 256 (pyF fun _ => 0) zeroP ?_
           intro b_t8 w303 lk r_t8 kk
           have n_t3_t8 := zrn r_t3 lk
           have n_t4_t8 := zrn r_t4 lk
           have n_t6_t8 := zrn r_t6 lk
           have l_t8 := zrl HGS Bw1 lk
           replace r_t3 := zrb r_t3 kk
           replace r_t4 := zrb r_t4 kk
           replace r_t6 := zrb r_t6 kk
           have Bw2 := zbt HGS Bw1 kk
           clear Bw1 kk lk)
        | (have hgo := Bw2; clear hgo
           refine wpList_store_as rfl 34 (.tmp 8) (.tmp 13) rfl 256 (pyF (f k)) arrP r_t8 rfl rfl (by omega) (fun _ _ => rfl) (fun i hi => putN_whole hi) ?_
           intro w305 q gk
           replace r_t3 := gb_rowIs r_t3 gk n_t3_t8
           replace r_t4 := gb_rowIs r_t4 gk n_t4_t8
           replace r_t6 := gb_rowIs r_t6 gk n_t6_t8
           replace r_t8 := q
           have Bw3 := zbg HGS Bw2 gk l_t8
           clear Bw2 gk q))
      have Bw4 := Bw3.drew
      replace r_t3 := World.rowIs.drew r_t3
      replace r_t4 := World.rowIs.drew r_t4
      replace r_t6 := World.rowIs.drew r_t6
      replace r_t8 := World.rowIs.drew r_t8
      clear Bw3
      refine zpo [b_t3] (.rd 0 (.rd 1 (.rd 2 (.rd 3 (.rd 4 (.rd 5 .done)))))) #[true, true, true, true, true, true, false, false, false] [6, 7, 8] [some 20, some 21, none] [[], [0], [0, 1]] [(0, []), (1, []), (2, []), (3, []), (4, [3]), (5, [4]), (6, [1, 2, 5]), (7, [0, 0, 1, 2, 3, 4, 5, 6]), (8, [7, 6, 6, 0, 1, 2, 3, 4, 5, 6])] 63 ?_
      refine zmv (.int .i64 (k : Int)) rfl rfl rfl rfl rfl ?_
      simp only [Act.put, zA, zB, zC]
      refine zmv (.func (.func 20) #[] #[]) rfl rfl rfl rfl rfl ?_
      simp only [Act.put, zA, zB, zC]
      refine zld (pyF (f k)) arrP r_t8 (cont1 (Ne.symm n_t3_t8)) (fun i hi => by rw [Nat.zero_add]) rfl rfl rfl rfl rfl (by omega) ?_
      simp only [Act.put, zA, zB, zC]
      refine zmv (.int .i64 (k : Int)) rfl rfl rfl rfl rfl ?_
      simp only [Act.put, zA, zB, zC]
      refine lintz_pure 18 (Op.indexAddr 36 (Operand.tmp 4) (Operand.tmp 17)) 0 (.pointer (some ⟨b_t4, k * 256, none⟩)) rfl rfl rfl rfl rfl (fun w0 hb => by unfold mkOp; go_simp; all_goals (with_reducible rfl)) ?_
      simp only [Act.put, zA, zB, zC]
      refine zld (pyF (g k)) arrP r_t4 (cont1 (Ne.symm n_t3_t4)) (p3_part _ k) rfl rfl rfl rfl rfl (by omega) ?_
      simp only [Act.put, zA, zB, zC]
      refine lintz_leaf ?_
      refine po_start [.val (.agg (arrOf 256 (pyF (sumN (f k) (g k))))), .val (.pointer (some ⟨b_t3, k * 256, none⟩)), .nil] [⟨b_t3, 36, 768, (p3F (upR (fun i => sumN (f i) (g i)) f k)), 2, (p3F (upR (fun i => sumN (f i) (g i)) f (k + 1)))⟩] (fun i hi => by obtain rfl : i = 0 := by { have h9 : i < 1 := hi; omega }; exact r_t3) (fun HWF m gz wa p az hp hm hmp hcl hdn hE hJ hS hO => ?_) (fun gz wa hE hJ => ?_)
      · rcases (show p = 0 ∨ p = 1 ∨ p = 2 by have h9 : p < 3 := hp; omega) with rfl | rfl | rfl
        · have e16 : az.eval (.tmp 16) = .agg (arrOf 256 (pyF (f k))) := hO 16 rfl
          have e19 : az.eval (.tmp 19) = .agg (arrOf 256 (pyF (g k))) := hO 19 rfl
          have e15 : az.eval (.tmp 15) = .func (.func 20) #[] #[] := hO 15 rfl
          exact po_kv HWF hJ hE (pAdd_any (f k) (g k) _ (Hf.out k) (Hg.out k)) rfl rfl rfl rfl rfl rfl e15 (ar2 e16 e19)
        · have e3 : az.eval (.tmp 3) = .pointer (some ⟨b_t3, 0, none⟩) := hO 3 rfl
          have e14 : az.eval (.tmp 14) = .int .i64 (k : Int) := hO 14 rfl
          exact po_p (Op.indexAddr 36 (Operand.tmp 3) (Operand.tmp 14)) HWF hJ hE rfl rfl rfl rfl rfl rfl rfl (by simp only [execOp, mkOp, eval_const, e3, e14]; go_simp)
        · exact po_storePart 0 (.tmp 21) (.tmp 20) 34 36 b_t3 256 768 (k * 256) _ _ _ (by rw [hm]; exact hp) hmp hJ rfl (show 0 < 1 by decide) rfl rfl rfl rfl rfl rfl (World.rowIs.lt r_t3) (by simp) (by kernel_rfl) po_ne1 hE rfl rfl rfl rfl rfl ((po_e hS hdn hJ 1 21 rfl rfl rfl rfl)) (po_e hS hdn hJ 0 20 rfl rfl rfl rfl) arrP (fun _ _ => rfl) (by have := HK.out; omega) (p3_put (rfl))
      · rw [putO_true _ _ _ _ _ rfl]
        simp only [putA, Nat.zero_add, Nat.reduceAdd]
        rw [hJ.tt 0 rfl, hJ.tt 1 rfl]
        simp only [Act.put, zA, zB, zC]
        refine po_end ?_
        replace r_t3 : wa.rowIs b_t3 36 768 (p3F (upR (fun i => sumN (f i) (g i)) f (k + 1))) := hJ.old 0 (show 0 < 1 by decide) (show 2 < 3 by decide)
        replace r_t4 := Keep.row hE r_t4 (cont1 (Ne.symm n_t3_t4))
        replace r_t6 := Keep.row hE r_t6 (cont1 (Ne.symm n_t3_t6))
        replace r_t8 := Keep.row hE r_t8 (cont1 (Ne.symm n_t3_t8))
        have Bw5 := hE.below Bw4 (HGS.out _ Bw4) (keep_all1 l_t3)
        clear Bw4 hE hJ 
        go_wp2
        go_roundw
        case rel => exact ⟨k + 1, HK.out, by have := HK.out; go_num, r_t3, r_t4, r_t6, Bw5⟩
        case measure => (have := HK.out; simp [intOf]; try omega)
    · obtain rfl : k = 3 := by omega
      replace r_t3 := World.rowIs.congr r_t3 (p3_done (fun i => sumN (f i) (g i)) f)
      go_wp2_with (first
        | (have hgo := Bw0; clear hgo
           refine wpList_load_as rfl 36 (.tmp 3) rfl 768 (p3F (fun i => sumN (f i) (g i))) arrRow r_t3 rfl (by omega) (fun i hi => by rw [Nat.zero_add]) ?_
           have Bw1 := Bw0
           clear Bw0)
        | (have hgo := Bw1; clear hgo
           refine wpList_store_as rfl 36 (.tmp 6) (.tmp 23) rfl 768 (p3F (fun i => sumN (f i) (g i))) arrRow r_t6 rfl rfl (by omega) (fun _ _ => rfl) (fun i hi => putN_whole hi) ?_
           intro w602 q gk
           replace r_t3 := gb_rowIs r_t3 gk n_t3_t6
           replace r_t4 := gb_rowIs r_t4 gk n_t4_t6
           replace r_t6 := q
           have Bw2 := zbg HGS Bw1 gk l_t6
           clear Bw1 gk q))
      exact ret_cell_as _ rfl arrRow r_t6 rfl (by omega) (fun _ _ => rfl) rfl ⟨rfl, Bw2⟩
set_option maxHeartbeats 4000000 in
set_option maxRecDepth 20000 in
theorem bothMul_any (f g : Nat → Nat → Nat) (w : World) (hf : ∀ i j, f i j < 65536) (hg : ∀ i j, g i j < 65536) : Calls Tryd.prog 19 #[.agg (arrOf 768 (p3F f)), .agg (arrOf 768 (p3F g)), .func (.func 45) #[] #[]] w fun e w' => e = .returned (.agg (arrOf 768 (p3F fun i => mulN (f i) (g i)))) ∧ Below w.heap.size w w' := by
  have Bw0 := Below.refl w.heap.size w
  have HGS : Hid (∀ wq : World, Below w.heap.size w wq → w.heap.size ≤ wq.heap.size) := Lib.hid fun wq h => h.size
  have Hf := Lib.hid hf
  have Hg := Lib.hid hg
  clear hf hg
  go_enter Tryd.func19, Tryd.ntmps19
  go_wp2_with (first
    | (have hgo := Bw0; clear hgo
       refine wpList_box_row rfl 36 (.tmp 0) rfl 768 (p3F f) rfl ?_
       intro b_t3 w1 lk r_t3 kk
       have l_t3 := zrl HGS Bw0 lk
       have Bw1 := zbt HGS Bw0 kk
       clear Bw0 kk lk)
    | (have hgo := Bw1; clear hgo
       refine wpList_box_row rfl 36 (.tmp 1) rfl 768 (p3F g) rfl ?_
       intro b_t4 w2 lk r_t4 kk
       have n_t3_t4 := zrn r_t3 lk
       have l_t4 := zrl HGS Bw1 lk
       replace r_t3 := zrb r_t3 kk
       have Bw2 := zbt HGS Bw1 kk
       clear Bw1 kk lk)
    | (have hgo := Bw2; clear hgo
       refine wpList_alloc_row rfl 36 rfl 768 (p3F fun _ _ => 0) zeroRow ?_
       intro b_t6 w3 lk r_t6 kk
       have n_t3_t6 := zrn r_t3 lk
       have n_t4_t6 := zrn r_t4 lk
       have l_t6 := zrl HGS Bw2 lk
       replace r_t3 := zrb r_t3 kk
       replace r_t4 := zrb r_t4 kk
       have Bw3 := zbt HGS Bw2 kk
       clear Bw2 kk lk)
    | (have hgo := Bw3; clear hgo
       refine wpList_load_as rfl 36 (.tmp 3) rfl 768 (p3F f) arrRow r_t3 rfl (by omega) (fun i hi => by rw [Nat.zero_add]) ?_
       have Bw4 := Bw3
       clear Bw3))
  go_loopw [10] (fun iv wr => ∃ k : Nat, k ≤ 3 ∧ iv = .int .i64 (k : Int) ∧ wr.rowIs b_t3 36 768 (p3F (upR (fun i => mulN (f i) (g i)) f k)) ∧ wr.rowIs b_t4 36 768 (p3F g) ∧ wr.rowIs b_t6 36 768 (p3F fun _ _ => 0) ∧ Below w.heap.size w wr) (fun iv _ => 3 - (intOf iv).toNat)
  case atStart => exact ⟨0, by decide, rfl, by rw [upR_zero]; exact r_t3, r_t4, r_t6, Bw4⟩
  case round =>
    clear r_t3  r_t4 r_t6 Bw4
    obtain ⟨k, hk, rfl, r_t3, r_t4, r_t6, Bw0⟩ := hrel
    by_cases hlt : k < 3
    · have hkI : 0 ≤ (k : Int) ∧ (k : Int) < 3 := by omega
      have HK := Lib.hid hlt
      clear hk hlt
      go_wp2_with (first
        | (have hgo := Bw0; clear hgo
           refine wpList_index_rows rfl 36 34 (.tmp 9) (.tmp 10) rfl 3 256 (by kernel_rfl) arrP rfl rfl HK.out (by decide) (p3_part f k) ?_
           have Bw1 := Bw0
           clear Bw0)
        | (have hgo := Bw1; clear hgo
           refine wpList_alloc_row rfl 34 rfl 256 (pyF fun _ => 0) zeroP ?_
           intro b_t8 w303 lk r_t8 kk
           have n_t3_t8 := zrn r_t3 lk
           have n_t4_t8 := zrn r_t4 lk
           have n_t6_t8 := zrn r_t6 lk
           have l_t8 := zrl HGS Bw1 lk
           replace r_t3 := zrb r_t3 kk
           replace r_t4 := zrb r_t4 kk
           replace r_t6 := zrb r_t6 kk
           have Bw2 := zbt HGS Bw1 kk
           clear Bw1 kk lk)
        | (have hgo := Bw2; clear hgo
           refine wpList_store_as rfl 34 (.tmp 8) (.tmp 13) rfl 256 (pyF (f k)) arrP r_t8 rfl rfl (by omega) (fun _ _ => rfl) (fun i hi => putN_whole hi) ?_
           intro w305 q gk
           replace r_t3 := gb_rowIs r_t3 gk n_t3_t8
           replace r_t4 := gb_rowIs r_t4 gk n_t4_t8
           replace r_t6 := gb_rowIs r_t6 gk n_t6_t8
           replace r_t8 := q
           have Bw3 := zbg HGS Bw2 gk l_t8
           clear Bw2 gk q))
      have Bw4 := Bw3.drew
      replace r_t3 := World.rowIs.drew r_t3
      replace r_t4 := World.rowIs.drew r_t4
      replace r_t6 := World.rowIs.drew r_t6
      replace r_t8 := World.rowIs.drew r_t8
      clear Bw3
      refine zpo [b_t3] (.rd 0 (.rd 1 (.rd 2 (.rd 3 (.rd 4 (.rd 5 .done)))))) #[true, true, true, true, true, true, false, false, false] [6, 7, 8] [some 20, some 21, none] [[], [0], [0, 1]] [(0, []), (1, []), (2, []), (3, []), (4, [3]), (5, [4]), (6, [1, 2, 5]), (7, [0, 0, 1, 2, 3, 4, 5, 6]), (8, [7, 6, 6, 0, 1, 2, 3, 4, 5, 6])] 63 ?_
      refine zmv (.int .i64 (k : Int)) rfl rfl rfl rfl rfl ?_
      simp only [Act.put, zA, zB, zC]
      refine zmv (.func (.func 45) #[] #[]) rfl rfl rfl rfl rfl ?_
      simp only [Act.put, zA, zB, zC]
      refine zld (pyF (f k)) arrP r_t8 (cont1 (Ne.symm n_t3_t8)) (fun i hi => by rw [Nat.zero_add]) rfl rfl rfl rfl rfl (by omega) ?_
      simp only [Act.put, zA, zB, zC]
      refine zmv (.int .i64 (k : Int)) rfl rfl rfl rfl rfl ?_
      simp only [Act.put, zA, zB, zC]
      refine lintz_pure 18 (Op.indexAddr 36 (Operand.tmp 4) (Operand.tmp 17)) 0 (.pointer (some ⟨b_t4, k * 256, none⟩)) rfl rfl rfl rfl rfl (fun w0 hb => by unfold mkOp; go_simp; all_goals (with_reducible rfl)) ?_
      simp only [Act.put, zA, zB, zC]
      refine zld (pyF (g k)) arrP r_t4 (cont1 (Ne.symm n_t3_t4)) (p3_part _ k) rfl rfl rfl rfl rfl (by omega) ?_
      simp only [Act.put, zA, zB, zC]
      refine lintz_leaf ?_
      refine po_start [.val (.agg (arrOf 256 (pyF (mulN (f k) (g k))))), .val (.pointer (some ⟨b_t3, k * 256, none⟩)), .nil] [⟨b_t3, 36, 768, (p3F (upR (fun i => mulN (f i) (g i)) f k)), 2, (p3F (upR (fun i => mulN (f i) (g i)) f (k + 1)))⟩] (fun i hi => by obtain rfl : i = 0 := by { have h9 : i < 1 := hi; omega }; exact r_t3) (fun HWF m gz wa p az hp hm hmp hcl hdn hE hJ hS hO => ?_) (fun gz wa hE hJ => ?_)
      · rcases (show p = 0 ∨ p = 1 ∨ p = 2 by have h9 : p < 3 := hp; omega) with rfl | rfl | rfl
        · have e16 : az.eval (.tmp 16) = .agg (arrOf 256 (pyF (f k))) := hO 16 rfl
          have e19 : az.eval (.tmp 19) = .agg (arrOf 256 (pyF (g k))) := hO 19 rfl
          have e15 : az.eval (.tmp 15) = .func (.func 45) #[] #[] := hO 15 rfl
          exact po_kv HWF hJ hE (rMul_any (f k) (g k) _ (Hf.out k) (Hg.out k)) rfl rfl rfl rfl rfl rfl e15 (ar2 e16 e19)
        · have e3 : az.eval (.tmp 3) = .pointer (some ⟨b_t3, 0, none⟩) := hO 3 rfl
          have e14 : az.eval (.tmp 14) = .int .i64 (k : Int) := hO 14 rfl
          exact po_p (Op.indexAddr 36 (Operand.tmp 3) (Operand.tmp 14)) HWF hJ hE rfl rfl rfl rfl rfl rfl rfl (by simp only [execOp, mkOp, eval_const, e3, e14]; go_simp)
        · exact po_storePart 0 (.tmp 21) (.tmp 20) 34 36 b_t3 256 768 (k * 256) _ _ _ (by rw [hm]; exact hp) hmp hJ rfl (show 0 < 1 by decide) rfl rfl rfl rfl rfl rfl (World.rowIs.lt r_t3) (by simp) (by kernel_rfl) po_ne1 hE rfl rfl rfl rfl rfl ((po_e hS hdn hJ 1 21 rfl rfl rfl rfl)) (po_e hS hdn hJ 0 20 rfl rfl rfl rfl) arrP (fun _ _ => rfl) (by have := HK.out; omega) (p3_put (rfl))
      · rw [putO_true _ _ _ _ _ rfl]
        simp only [putA, Nat.zero_add, Nat.reduceAdd]
        rw [hJ.tt 0 rfl, hJ.tt 1 rfl]
        simp only [Act.put, zA, zB, zC]
        refine po_end ?_
        replace r_t3 : wa.rowIs b_t3 36 768 (p3F (upR (fun i => mulN (f i) (g i)) f (k + 1))) := hJ.old 0 (show 0 < 1 by decide) (show 2 < 3 by decide)
        replace r_t4 := Keep.row hE r_t4 (cont1 (Ne.symm n_t3_t4))
        replace r_t6 := Keep.row hE r_t6 (cont1 (Ne.symm n_t3_t6))
        replace r_t8 := Keep.row hE r_t8 (cont1 (Ne.symm n_t3_t8))
        have Bw5 := hE.below Bw4 (HGS.out _ Bw4) (keep_all1 l_t3)
        clear Bw4 hE hJ 
        go_wp2
        go_roundw
        case rel => exact ⟨k + 1, HK.out, by have := HK.out; go_num, r_t3, r_t4, r_t6, Bw5⟩
        case measure => (have := HK.out; simp [intOf]; try omega)
    · obtain rfl : k = 3 := by omega
      replace r_t3 := World.rowIs.congr r_t3 (p3_done (fun i => mulN (f i) (g i)) f)
      go_wp2_with (first
        | (have hgo := Bw0; clear hgo
           refine wpList_load_as rfl 36 (.tmp 3) rfl 768 (p3F (fun i => mulN (f i) (g i))) arrRow r_t3 rfl (by omega) (fun i hi => by rw [Nat.zero_add]) ?_
           have Bw1 := Bw0
           clear Bw0)
        | (have hgo := Bw1; clear hgo
           refine wpList_store_as rfl 36 (.tmp 6) (.tmp 23) rfl 768 (p3F (fun i => mulN (f i) (g i))) arrRow r_t6 rfl rfl (by omega) (fun _ _ => rfl) (fun i hi => putN_whole hi) ?_
           intro w602 q gk
           replace r_t3 := gb_rowIs r_t3 gk n_t3_t6
           replace r_t4 := gb_rowIs r_t4 gk n_t4_t6
           replace r_t6 := q
           have Bw2 := zbg HGS Bw1 gk l_t6
           clear Bw1 gk q))
      exact ret_cell_as _ rfl arrRow r_t6 rfl (by omega) (fun _ _ => rfl) rfl ⟨rfl, Bw2⟩
theorem p3_at (f : Nat → Nat → Nat) (k off i : Nat) (h : off = k * 256) (hi : i < 256) : p3F f (off + i) = pyF (f k) i := by
  subst h
  exact p3_part f k i hi
/-- The first k + 1 of them, summed. -/
def accN (f : Nat → Nat → Nat) : Nat → Nat → Nat
  | 0 => f 0
  | k + 1 => sumN (accN f k) (f (k + 1))
theorem accN_lt (f : Nat → Nat → Nat) (hf : ∀ i j, f i j < 65536) : ∀ k j, accN f k j < 65536
  | 0, j => hf 0 j
  | k + 1, j => Nat.lt_trans (sumN_lt _ _ j) (by decide)
set_option maxHeartbeats 4000000 in
set_option maxRecDepth 20000 in
theorem folded_any (f : Nat → Nat → Nat) (w : World) (hf : ∀ i j, f i j < 65536) : Calls Tryd.prog 46 #[.agg (arrOf 768 (p3F f)), .func (.func 20) #[] #[]] w fun e w' => e = .returned (.agg (arrOf 256 (pyF (accN f 2)))) ∧ Below w.heap.size w w' := by
  have Bw0 := Below.refl w.heap.size w
  have HGS : Hid (∀ wq : World, Below w.heap.size w wq → w.heap.size ≤ wq.heap.size) := Lib.hid fun wq h => h.size
  have Hf := Lib.hid hf
  have HA := Lib.hid (accN_lt f hf)
  clear hf
  go_enter Tryd.func46, Tryd.ntmps46
  go_wp2_with (first
    | (have hgo := Bw0; clear hgo
       refine wpList_box_row rfl 36 (.tmp 0) rfl 768 (p3F f) rfl ?_
       intro b_t2 w1 lk r_t2 kk
       have l_t2 := zrl HGS Bw0 lk
       have Bw1 := zbt HGS Bw0 kk
       clear Bw0 kk lk)
    | (have hgo := Bw1; clear hgo
       refine wpList_alloc_row rfl 34 rfl 256 (pyF fun _ => 0) zeroP ?_
       intro b_t4 w2 lk r_t4 kk
       have n_t2_t4 := zrn r_t2 lk
       have l_t4 := zrl HGS Bw1 lk
       replace r_t2 := zrb r_t2 kk
       have Bw2 := zbt HGS Bw1 kk
       clear Bw1 kk lk)
    | (have hgo := Bw2; clear hgo
       refine wpList_load_as rfl 34 (.tmp 8) rfl 256 (pyF (f 0)) arrP r_t2 rfl (by omega) (p3_part _ 0) ?_
       have Bw3 := Bw2
       clear Bw2)
    | (have hgo := Bw3; clear hgo
       refine wpList_alloc_row rfl 34 rfl 256 (pyF fun _ => 0) zeroP ?_
       intro b_t5 w5 lk r_t5 kk
       have n_t2_t5 := zrn r_t2 lk
       have n_t4_t5 := zrn r_t4 lk
       have l_t5 := zrl HGS Bw3 lk
       replace r_t2 := zrb r_t2 kk
       replace r_t4 := zrb r_t4 kk
       have Bw4 := zbt HGS Bw3 kk
       clear Bw3 kk lk)
    | (have hgo := Bw4; clear hgo
       refine wpList_store_as rfl 34 (.tmp 5) (.tmp 9) rfl 256 (pyF (f 0)) arrP r_t5 rfl rfl (by omega) (fun _ _ => rfl) (fun i hi => putN_whole hi) ?_
       intro w6 q gk
       replace r_t2 := gb_rowIs r_t2 gk n_t2_t5
       replace r_t4 := gb_rowIs r_t4 gk n_t4_t5
       replace r_t5 := q
       have Bw5 := zbg HGS Bw4 gk l_t5
       clear Bw4 gk q))
  go_loopw [12] (fun iv wr => ∃ k : Nat, k ≤ 2 ∧ iv = .int .i64 (k : Int) ∧ wr.rowIs b_t5 34 256 (pyF (accN f k)) ∧ wr.rowIs b_t2 36 768 (p3F f) ∧ wr.rowIs b_t4 34 256 (pyF fun _ => 0) ∧ Below w.heap.size w wr) (fun iv _ => 2 - (intOf iv).toNat)
  case atStart => exact ⟨0, by decide, rfl, r_t5, r_t2, r_t4, Bw5⟩
  case round =>
    clear r_t5 r_t2 r_t4 Bw5
    obtain ⟨k, hk, rfl, r_t5, r_t2, r_t4, Bw0⟩ := hrel
    by_cases hlt : k < 2
    · have hkI : 0 ≤ (k : Int) ∧ (k : Int) < 2 := by omega
      have HK := Lib.hid hlt
      clear hk hlt
      go_wp2_with (first
        | (have hgo := Bw0; clear hgo
           refine wpList_load_as rfl 34 (.tmp 14) rfl 256 (pyF (f (k + 1))) arrP r_t2 rfl (by omega) (fun i hi => p3_at f (k + 1) _ i (by omega) hi) ?_
           have Bw1 := Bw0
           clear Bw0)
        | (have hgo := Bw1; clear hgo
           refine wpList_alloc_row rfl 34 rfl 256 (pyF fun _ => 0) zeroP ?_
           intro b_t7 w304 lk r_t7 kk
           have n_t5_t7 := zrn r_t5 lk
           have n_t2_t7 := zrn r_t2 lk
           have n_t4_t7 := zrn r_t4 lk
           have l_t7 := zrl HGS Bw1 lk
           replace r_t5 := zrb r_t5 kk
           replace r_t2 := zrb r_t2 kk
           replace r_t4 := zrb r_t4 kk
           have Bw2 := zbt HGS Bw1 kk
           clear Bw1 kk lk)
        | (have hgo := Bw2; clear hgo
           refine wpList_store_as rfl 34 (.tmp 7) (.tmp 15) rfl 256 (pyF (f (k + 1))) arrP r_t7 rfl rfl (by omega) (fun _ _ => rfl) (fun i hi => putN_whole hi) ?_
           intro w305 q gk
           replace r_t5 := gb_rowIs r_t5 gk n_t5_t7
           replace r_t2 := gb_rowIs r_t2 gk n_t2_t7
           replace r_t4 := gb_rowIs r_t4 gk n_t4_t7
           replace r_t7 := q
           have Bw3 := zbg HGS Bw2 gk l_t7
           clear Bw2 gk q)
        | (have hgo := Bw3; clear hgo
           refine wpList_load_as rfl 34 (.tmp 5) rfl 256 (pyF (accN f k)) arrP r_t5 rfl (by omega) (fun i hi => by rw [Nat.zero_add]) ?_
           have Bw4 := Bw3
           clear Bw3)
        | (have hgo := Bw4; clear hgo
           refine wpList_load_as rfl 34 (.tmp 7) rfl 256 (pyF (f (k + 1))) arrP r_t7 rfl (by omega) (fun i hi => by rw [Nat.zero_add]) ?_
           have Bw5 := Bw4
           clear Bw4)
        | (have hgo := Bw5; clear hgo
           go_at_call 20
           refine (pAdd_any (accN f k) (f (k + 1)) _ (HA.out k) (Hf.out (k + 1))).mono ?_
           rintro e w309 ⟨rfl, kk⟩
           replace r_t5 := zrb r_t5 kk
           replace r_t2 := zrb r_t2 kk
           replace r_t4 := zrb r_t4 kk
           replace r_t7 := zrb r_t7 kk
           have Bw6 := zbt HGS Bw5 kk
           clear Bw5 kk)
        | (have hgo := Bw6; clear hgo
           refine wpList_store_as rfl 34 (.tmp 5) (.tmp 19) rfl 256 (pyF (accN f (k + 1))) arrP r_t5 rfl rfl (by omega) (fun _ _ => rfl) (fun i hi => putN_whole hi) ?_
           intro w310 q gk
           replace r_t2 := gb_rowIs r_t2 gk n_t2_t5
           replace r_t4 := gb_rowIs r_t4 gk n_t4_t5
           replace r_t7 := gb_rowIs r_t7 gk (Ne.symm n_t5_t7)
           replace r_t5 := q
           have Bw7 := zbg HGS Bw6 gk l_t5
           clear Bw6 gk q))
      go_roundw
      case rel => exact ⟨k + 1, HK.out, by have := HK.out; go_num, r_t5, r_t2, r_t4, Bw7⟩
      case measure => (have := HK.out; simp [intOf]; try omega)
    · obtain rfl : k = 2 := by omega
      go_wp2_with (first
        | (have hgo := Bw0; clear hgo
           refine wpList_load_as rfl 34 (.tmp 5) rfl 256 (pyF (accN f 2)) arrP r_t5 rfl (by omega) (fun i hi => by rw [Nat.zero_add]) ?_
           have Bw1 := Bw0
           clear Bw0)
        | (have hgo := Bw1; clear hgo
           refine wpList_store_as rfl 34 (.tmp 4) (.tmp 21) rfl 256 (pyF (accN f 2)) arrP r_t4 rfl rfl (by omega) (fun _ _ => rfl) (fun i hi => putN_whole hi) ?_
           intro w602 q gk
           replace r_t5 := gb_rowIs r_t5 gk (Ne.symm n_t4_t5)
           replace r_t2 := gb_rowIs r_t2 gk n_t2_t4
           replace r_t4 := q
           have Bw2 := zbg HGS Bw1 gk l_t4
           clear Bw1 gk q))
      exact ret_cell_as _ rfl arrP r_t4 rfl (by omega) (fun _ _ => rfl) rfl ⟨rfl, Bw2⟩
set_option maxHeartbeats 4000000 in
set_option maxRecDepth 20000 in
theorem inner_any (f g : Nat → Nat → Nat) (w : World) (hf : ∀ i j, f i j < 65536) (hg : ∀ i j, g i j < 65536) : Calls Tryd.prog 27 #[.agg (arrOf 768 (p3F f)), .agg (arrOf 768 (p3F g))] w fun e w' => e = .returned (.agg (arrOf 256 (pyF (inN f g)))) ∧ Below w.heap.size w w' := by
  have Bw0 := Below.refl w.heap.size w
  have HGS : Hid (∀ wq : World, Below w.heap.size w wq → w.heap.size ≤ wq.heap.size) := Lib.hid fun wq h => h.size
  go_enter Tryd.func27, Tryd.ntmps27
  go_wp2_with (first
    | (have hgo := Bw0; clear hgo
       refine wpList_box_row rfl 36 (.tmp 0) rfl 768 (p3F f) rfl ?_
       intro b_t2 w1 lk r_t2 kk
       have l_t2 := zrl HGS Bw0 lk
       have Bw1 := zbt HGS Bw0 kk
       clear Bw0 kk lk)
    | (have hgo := Bw1; clear hgo
       refine wpList_box_row rfl 36 (.tmp 1) rfl 768 (p3F g) rfl ?_
       intro b_t3 w2 lk r_t3 kk
       have n_t2_t3 := zrn r_t2 lk
       have l_t3 := zrl HGS Bw1 lk
       replace r_t2 := zrb r_t2 kk
       have Bw2 := zbt HGS Bw1 kk
       clear Bw1 kk lk)
    | (have hgo := Bw2; clear hgo
       refine wpList_alloc_row rfl 34 rfl 256 (pyF fun _ => 0) zeroP ?_
       intro b_t4 w3 lk r_t4 kk
       have n_t2_t4 := zrn r_t2 lk
       have n_t3_t4 := zrn r_t3 lk
       have l_t4 := zrl HGS Bw2 lk
       replace r_t2 := zrb r_t2 kk
       replace r_t3 := zrb r_t3 kk
       have Bw3 := zbt HGS Bw2 kk
       clear Bw2 kk lk)
    | (have hgo := Bw3; clear hgo
       refine wpList_load_as rfl 36 (.tmp 2) rfl 768 (p3F f) arrRow r_t2 rfl (by omega) (fun i hi => by rw [Nat.zero_add]) ?_
       have Bw4 := Bw3
       clear Bw3)
    | (have hgo := Bw4; clear hgo
       refine wpList_load_as rfl 36 (.tmp 3) rfl 768 (p3F g) arrRow r_t3 rfl (by omega) (fun i hi => by rw [Nat.zero_add]) ?_
       have Bw5 := Bw4
       clear Bw4)
    | (have hgo := Bw5; clear hgo
       go_at_call 19
       refine (bothMul_any f g _ hf hg).mono ?_
       rintro e w6 ⟨rfl, kk⟩
       replace r_t2 := zrb r_t2 kk
       replace r_t3 := zrb r_t3 kk
       replace r_t4 := zrb r_t4 kk
       have Bw6 := zbt HGS Bw5 kk
       clear Bw5 kk)
    | (have hgo := Bw6; clear hgo
       go_at_call 46
       refine (folded_any (fun i => mulN (f i) (g i)) _ (fun i => lt16 (mulN_lt _ _))).mono ?_
       rintro e w7 ⟨rfl, kk⟩
       replace r_t2 := zrb r_t2 kk
       replace r_t3 := zrb r_t3 kk
       replace r_t4 := zrb r_t4 kk
       have Bw7 := zbt HGS Bw6 kk
       clear Bw6 kk)
    | (have hgo := Bw7; clear hgo
       refine wpList_store_as rfl 34 (.tmp 4) (.tmp 8) rfl 256 (pyF (inN f g)) arrP r_t4 rfl rfl (by omega) (fun _ _ => rfl) (fun i hi => putN_whole hi) ?_
       intro w8 q gk
       replace r_t2 := gb_rowIs r_t2 gk n_t2_t4
       replace r_t3 := gb_rowIs r_t3 gk n_t3_t4
       replace r_t4 := q
       have Bw8 := zbg HGS Bw7 gk l_t4
       clear Bw7 gk q))
  exact ret_cell_as _ rfl arrP r_t4 rfl (by omega) (fun _ _ => rfl) rfl ⟨rfl, Bw8⟩
set_option maxHeartbeats 4000000 in
set_option maxRecDepth 20000 in
theorem scaledC_any (f : Nat → Nat → Nat) (d : Nat) (w : World) (hf : ∀ i j, f i j < 65536) (hd1 : 1 ≤ d) (hd2 : d ≤ 11) : Calls Tryd.prog 30 #[.agg (arrOf 768 (p3F f)), .func (.func 31) #[] #[], .int .i64 (d : Int)] w fun e w' => e = .returned (.agg (arrOf 768 (p3F fun i => cmpN d (f i)))) ∧ Below w.heap.size w w' := by
  have Bw0 := Below.refl w.heap.size w
  have HGS : Hid (∀ wq : World, Below w.heap.size w wq → w.heap.size ≤ wq.heap.size) := Lib.hid fun wq h => h.size
  have Hf := Lib.hid hf
  have HD := Lib.hid (And.intro hd1 hd2)
  clear hf hd1 hd2
  go_enter Tryd.func30, Tryd.ntmps30
  go_wp2_with (first
    | (have hgo := Bw0; clear hgo
       refine wpList_box_row rfl 36 (.tmp 0) rfl 768 (p3F f) rfl ?_
       intro b_t3 w1 lk r_t3 kk
       have l_t3 := zrl HGS Bw0 lk
       have Bw1 := zbt HGS Bw0 kk
       clear Bw0 kk lk)
    | (have hgo := Bw1; clear hgo
       refine wpList_alloc_row rfl 36 rfl 768 (p3F fun _ _ => 0) zeroRow ?_
       intro b_t6 w2 lk r_t6 kk
       have n_t3_t6 := zrn r_t3 lk
       have l_t6 := zrl HGS Bw1 lk
       replace r_t3 := zrb r_t3 kk
       have Bw2 := zbt HGS Bw1 kk
       clear Bw1 kk lk)
    | (have hgo := Bw2; clear hgo
       refine wpList_load_as rfl 36 (.tmp 3) rfl 768 (p3F f) arrRow r_t3 rfl (by omega) (fun i hi => by rw [Nat.zero_add]) ?_
       have Bw3 := Bw2
       clear Bw2))
  go_loopw [10] (fun iv wr => ∃ k : Nat, k ≤ 3 ∧ iv = .int .i64 (k : Int) ∧ wr.rowIs b_t3 36 768 (p3F (upR (fun i => cmpN d (f i)) f k)) ∧ wr.rowIs b_t6 36 768 (p3F fun _ _ => 0) ∧ Below w.heap.size w wr) (fun iv _ => 3 - (intOf iv).toNat)
  case atStart => exact ⟨0, by decide, rfl, by rw [upR_zero]; exact r_t3, r_t6, Bw3⟩
  case round =>
    clear r_t3  r_t6 Bw3
    obtain ⟨k, hk, rfl, r_t3, r_t6, Bw0⟩ := hrel
    by_cases hlt : k < 3
    · have hkI : 0 ≤ (k : Int) ∧ (k : Int) < 3 := by omega
      have HK := Lib.hid hlt
      clear hk hlt
      go_wp2_with (first
        | (have hgo := Bw0; clear hgo
           refine wpList_index_rows rfl 36 34 (.tmp 9) (.tmp 10) rfl 3 256 (by kernel_rfl) arrP rfl rfl HK.out (by decide) (p3_part f k) ?_
           have Bw1 := Bw0
           clear Bw0)
        | (have hgo := Bw1; clear hgo
           refine wpList_alloc_row rfl 34 rfl 256 (pyF fun _ => 0) zeroP ?_
           intro b_t8 w303 lk r_t8 kk
           have n_t3_t8 := zrn r_t3 lk
           have n_t6_t8 := zrn r_t6 lk
           have l_t8 := zrl HGS Bw1 lk
           replace r_t3 := zrb r_t3 kk
           replace r_t6 := zrb r_t6 kk
           have Bw2 := zbt HGS Bw1 kk
           clear Bw1 kk lk)
        | (have hgo := Bw2; clear hgo
           refine wpList_store_as rfl 34 (.tmp 8) (.tmp 13) rfl 256 (pyF (f k)) arrP r_t8 rfl rfl (by omega) (fun _ _ => rfl) (fun i hi => putN_whole hi) ?_
           intro w305 q gk
           replace r_t3 := gb_rowIs r_t3 gk n_t3_t8
           replace r_t6 := gb_rowIs r_t6 gk n_t6_t8
           replace r_t8 := q
           have Bw3 := zbg HGS Bw2 gk l_t8
           clear Bw2 gk q)
        | (have hgo := Bw3; clear hgo
           refine wpList_load_as rfl 34 (.tmp 8) rfl 256 (pyF (f k)) arrP r_t8 rfl (by omega) (fun i hi => by rw [Nat.zero_add]) ?_
           have Bw4 := Bw3
           clear Bw3)
        | (have hgo := Bw4; clear hgo
           go_at_call 31
           refine (rCompress_ok (f k) d _ (Hf.out k) HD.out.1 HD.out.2).mono ?_
           rintro e w310 ⟨rfl, kk⟩
           replace r_t3 := zrb r_t3 kk
           replace r_t6 := zrb r_t6 kk
           replace r_t8 := zrb r_t8 kk
           have Bw5 := zbt HGS Bw4 kk
           clear Bw4 kk)
        | (have hgo := Bw5; clear hgo
           refine wpList_store_as rfl 34 (.tmp 22) (.tmp 20) rfl 256 (p3F (upR (fun i => cmpN d (f i)) f (k + 1))) arrP r_t3 rfl rfl (by have := HK.out; omega) (fun _ _ => rfl) (p3_put (rfl)) ?_
           intro w315 q gk
           replace r_t6 := gb_rowIs r_t6 gk (Ne.symm n_t3_t6)
           replace r_t8 := gb_rowIs r_t8 gk (Ne.symm n_t3_t8)
           replace r_t3 := q
           have Bw6 := zbg HGS Bw5 gk l_t3
           clear Bw5 gk q))
      go_roundw
      case rel => exact ⟨k + 1, HK.out, by have := HK.out; go_num, r_t3, r_t6, Bw6⟩
      case measure => (have := HK.out; simp [intOf]; try omega)
    · obtain rfl : k = 3 := by omega
      replace r_t3 := World.rowIs.congr r_t3 (p3_done (fun i => cmpN d (f i)) f)
      go_wp2_with (first
        | (have hgo := Bw0; clear hgo
           refine wpList_load_as rfl 36 (.tmp 3) rfl 768 (p3F (fun i => cmpN d (f i))) arrRow r_t3 rfl (by omega) (fun i hi => by rw [Nat.zero_add]) ?_
           have Bw1 := Bw0
           clear Bw0)
        | (have hgo := Bw1; clear hgo
           refine wpList_store_as rfl 36 (.tmp 6) (.tmp 24) rfl 768 (p3F (fun i => cmpN d (f i))) arrRow r_t6 rfl rfl (by omega) (fun _ _ => rfl) (fun i hi => putN_whole hi) ?_
           intro w602 q gk
           replace r_t3 := gb_rowIs r_t3 gk n_t3_t6
           replace r_t6 := q
           have Bw2 := zbg HGS Bw1 gk l_t6
           clear Bw1 gk q))
      exact ret_cell_as _ rfl arrRow r_t6 rfl (by omega) (fun _ _ => rfl) rfl ⟨rfl, Bw2⟩
end Go.Proofs.YtflblaccfiigfabDoor

/- The document's polynomials: written as bytes. -/
namespace Go.Proofs.YtflblaccfiigfabDoor
open Go.RowKit Go.Deep
set_option linter.unusedSimpArgs false
set_option linter.unusedVariables false

end Go.Proofs.YtflblaccfiigfabDoor

/- The document's polynomials: read of bytes. -/
namespace Go.Proofs.YtflblaccfiigfabDoor
open Go.RowKit Go.Deep
set_option linter.unusedSimpArgs false
set_option linter.unusedVariables false

/-- The numbers of d digits each that X packs. -/
def decV (X d i : Nat) : Nat := X / 2 ^ (d * i) % 2 ^ d
theorem decV_lt (X d i : Nat) : decV X d i < 2 ^ d := Nat.mod_lt _ (Nat.pow_pos (by decide))
end Go.Proofs.YtflblaccfiigfabDoor

/- The program's polynomials: written as bytes. -/
namespace Go.Proofs.YtflblaccfiigfabDoor
open Go.RowKit Go.Deep
set_option linter.unusedSimpArgs false
set_option linter.unusedVariables false

theorem litB_next (V k : Nat) : litB V (k + 1) = litB V k ++ [UInt8.ofNat (V / 256 ^ k)] := by
  unfold litB
  rw [List.range_succ, List.map_append]
  show _ ++ [UInt8.ofNat (V / 2 ^ (8 * k))] = _
  rw [p256]
theorem litB_add (X Y k : Nat) : litB (X + 256 ^ k * Y) k = litB X k := by
  refine List.ext_getElem (by simp [litB_length]) fun i h1 h2 => ?_
  rw [litB_length] at h1
  apply UInt8.toNat_inj.1
  rw [litB_el_nat, litB_el_nat]
  obtain ⟨m, rfl⟩ : ∃ m, k = i + (m + 1) := ⟨k - i - 1, by omega⟩
  rw [Nat.pow_add, Nat.mul_assoc, Nat.add_mul_div_left _ _ (p256_pos i), Nat.pow_succ, Nat.mul_comm (256 ^ m) 256, Nat.mul_assoc, Nat.add_mul_mod_self_left]
/-- One more number. -/
theorem enc_next (T v d i k c : Nat) (hT : T < 2 ^ (d * i)) (hc : 8 * k + c = d * i) : T / 256 ^ k < 2 ^ c ∧ (T + 2 ^ (d * i) * v) / 256 ^ k = T / 256 ^ k + 2 ^ c * v ∧ litB (T + 2 ^ (d * i) * v) k = litB T k := by
  have e : 2 ^ (d * i) = 256 ^ k * 2 ^ c := by rw [← hc, Nat.pow_add, p256]
  rw [e] at hT ⊢
  refine ⟨Nat.div_lt_of_lt_mul hT, ?_, ?_⟩
  · rw [Nat.mul_assoc, Nat.add_mul_div_left _ _ (p256_pos k)]
  · rw [Nat.mul_assoc, litB_add]
theorem or_u32 (a k b : Nat) (ha : a < 2 ^ k) (hb : b < 65536) (hk : k ≤ 12) : bits .or .u32 (a : Int) ((2 ^ k * b : Nat) : Int) = ((a + 2 ^ k * b : Nat) : Int) := by
  have hp : 2 ^ k ≤ 2 ^ 12 := Nat.pow_le_pow_right (by decide) hk
  have hbp : 2 ^ k * b ≤ 2 ^ 12 * 65535 := Nat.mul_le_mul hp (by omega)
  have e : ((BitVec.ofNat 32 a) ||| (BitVec.ofNat 32 (2 ^ k * b))).toNat = a + 2 ^ k * b := by
    rw [BitVec.toNat_or, BitVec.toNat_ofNat, BitVec.toNat_ofNat, Nat.mod_eq_of_lt (by omega), Nat.mod_eq_of_lt (by omega), Nat.or_comm, ← Nat.two_pow_add_eq_or_of_lt ha, Nat.add_comm]
  show IntKind.u32.wrap (((BitVec.ofInt 32 (a : Int)) ||| (BitVec.ofInt 32 ((2 ^ k * b : Nat) : Int))).toNat : Int) = _
  rw [ofInt_nat32, ofInt_nat32, e, u32_in _ (by omega)]
theorem run_make0 (n : Nat) (hn : n ≤ 1000000) (w : World) : (Instr.makeSlice 22 (.int .i64 0) (.int .i64 (n : Int))).run Tryd.prog w = .ok (.slice (some ⟨w.heap.size, 0, none⟩) 0 n) (w.alloc (.cells (madeCells #[.int .u8 0] n) 5)) := by
  obtain ⟨i, hi, hzz⟩ := Option.map_eq_some_iff.1 (show (Tryd.prog.info? 5).map (fun i => (i.zero, i.size, i.bytes)) = some (some (.int .u8 0), 1, 1) from Try.info5)
  simp only [Prod.mk.injEq] at hzz
  obtain ⟨hz, hs, hb⟩ := hzz
  have hr := run_make (P := Tryd.prog) w 22 5 i (.int .u8 0) Tryd.underlying22 hi hz .i64 .i64 0 (n : Int) (by decide) (by omega) (by rw [hb]; omega) (by omega)
  simp only [Int.toNat_natCast, hs, Nat.mul_one] at hr
  exact hr
theorem wpList_make0 {ops : Array Oper} {rest : List Oper} {o : Oper} {a : Act} {w : World} {Q : Exit → Act → World → Prop} (hgd : o.guard = none) (x : Operand) (ho : o.op = .makeSlice 22 (.const (.int .i64 0)) x) (n : Nat) (hx : a.eval x = .int .i64 (n : Int)) (hn : n ≤ 1000000)
    (h : ∀ b v w', w.heap.size ≤ b → b < w'.heap.size → Owns w' b v [] → Below w.heap.size w w' → wpList Tryd.prog ops Q rest (a.put o.dst v) w') : wpList Tryd.prog ops Q (o :: rest) a w := by
  have hr := run_make0 n hn w
  have hx' : (execOp a.eval (mkOp (.makeSlice 22 (.const (.int .i64 0)) x) o.type)).run Tryd.prog w = .ok (.value (.slice (some ⟨w.heap.size, 0, none⟩) 0 n)) (w.alloc (.cells (madeCells #[.int .u8 0] n) 5)) := by
    simp [execOp, mkOp, hx, hr, Result.andThen, eval_const]
  exact wpList_plain hgd fun _ hK => by
    unfold Oper.wp
    rw [exec_mkOp, ho, hx']
    exact hK _ _ (h _ _ _ (Nat.le_refl _) (by simp) (World.ownsRow_made w _ n (Nat.le_refl _) (by unfold maxLen; omega) (by simp [madeCells])) ((Below.refl _ _).alloc (Nat.le_refl _) _))
theorem run_eqlI (a b : Int) (v : Bool) (h : decide (a = b) = v) (w : World) : (binOp .eql 3 (.int .i64 a) (.int .i64 b)).run Tryd.prog w = .ok (.bool v) w := by
  subst h
  go_simp
  exact Bool.eq_iff_iff.2 (by simp)
theorem run_shlU (a c : Nat) (k : Nat) (hk : k ≤ 32) (h : c = 2 ^ k * a) (hc : c < 4294967296) (w : World) : (binOp .shl 84 (.int .u32 (a : Int)) (.int .i64 (k : Int))).run Tryd.prog w = .ok (.int .u32 (c : Int)) w := by
  have e : (2 : Int) ^ k = ((2 ^ k : Nat) : Int) := by rw [Int.natCast_pow]; rfl
  have h1 : IntKind.u32.wrap ((a : Int) * 2 ^ k) = (c : Int) := by rw [e, ← Int.natCast_mul, Nat.mul_comm, ← h, u32_in _ hc]
  have h0 : 0 ≤ (k : Int) := by omega
  have h2 : ¬ (k : Int) < 0 := by omega
  have h3 : (k : Int) < 64 := by omega
  clear h e
  go_simp
  try rw [Nat.min_eq_left hk]
  try exact h1
set_option maxHeartbeats 4000000 in
set_option maxRecDepth 20000 in
theorem rEncodeD (f : Nat → Nat) (d : Nat) (w : World) (hf : ∀ i, f i < 65536) (hd : 1 ≤ d ∧ d < 12) : Calls Tryd.prog 39 #[.agg (arrOf 256 (pyF f)), .int .i64 (d : Int)] w fun e w' => ∃ v, e = .returned (.tuple #[v, .int .i64 0]) ∧ Owns w' w.heap.size v (encL f d) ∧ Below w.heap.size w w' := by
  have Bw0 := Below.refl w.heap.size w
  have HGS : Hid (∀ wq : World, Below w.heap.size w wq → w.heap.size ≤ wq.heap.size) := Lib.hid fun wq h => h.size
  have Hf := Lib.hid hf
  have hd1 : 1 ≤ d := by omega
  have hd2 : d ≤ 12 := by omega
  have hd3 : ¬ (d : Int) < 1 := by omega
  have hd4 : ¬ 12 < (d : Int) := by omega
  have rE := run_eqlI (d : Int) 12 false (decide_eq_false (by omega))
  obtain ⟨L, hL⟩ := nat_var (32 * d)
  have hwL : IntKind.i64.wrap (32 * (d : Int)) = (L : Int) := by rw [IntWalk.i64_in _ (by omega)]; omega
  have HL := Lib.hid hL
  have HD : Hid (d ≤ 12 ∧ 1 ≤ d) := Lib.hid ⟨hd2, hd1⟩
  have HDD := Lib.hid hd
  replace rE := Lib.hid rE
  clear hf hL hd1 hd2 hd
  go_enter Tryd.func39, Tryd.ntmps39
  go_wp2_with (first
    | (have hgo := Bw0; clear hgo
       refine wpList_box_row rfl 34 (.tmp 0) rfl 256 (pyF f) rfl ?_
       intro b_t2 w1 lk r_t2 kk
       have l_t2 := zrl HGS Bw0 lk
       have Bw1 := zbt HGS Bw0 kk
       clear Bw0 kk lk)
    | (have hgo := Bw1; clear hgo
       refine wpList_make0 rfl (.tmp 18) rfl L (by first | rfl | (rw [← hwL]; rfl)) (by have := HL.out; have := HD.out; omega) ?_
       intro g v_o w4 lk lk2 oc kk
       have l_g := Nat.le_trans (HGS.out _ Bw1) lk
       replace r_t2 := zrb r_t2 kk
       have Bw9 := zbt HGS Bw1 kk
       clear Bw1 kk lk)
    | (have hgo := Bw9; clear hgo
       refine wpList_load_as rfl 34 (.tmp 2) rfl 256 (pyF f) arrP r_t2 rfl (by omega) (fun i hi => by rw [Nat.zero_add]) ?_
       have Bw10 := Bw9
       clear Bw9 r_t2))
  have HG := Lib.hid l_g
  clear l_g
  go_loopw [6, 7, 8, 21] (fun out hv cv iv wr => ∃ i k c h : Nat, i ≤ 256 ∧ Hid (8 * k + c = d * i ∧ c < 8) ∧ Hid (h = pk (vvN f d) d i / 256 ^ k) ∧ iv = .int .i64 (i : Int) ∧ cv = .int .i64 (c : Int) ∧ hv = .int .u32 (h : Int) ∧ Owns wr g out (litB (pk (vvN f d) d i) k) ∧ g < wr.heap.size ∧ Below w.heap.size w wr) (fun _ _ _ iv _ => 256 - (intOf iv).toNat)
  case atStart => exact ⟨0, 0, 0, 0, Nat.zero_le _, Lib.hid ⟨by omega, by decide⟩, Lib.hid (Nat.zero_div _).symm, rfl, rfl, rfl, oc, lk2, Bw10⟩
  case round =>
    clear oc lk2 Bw10
    obtain ⟨i, k, c, h, hi, HC, HH, rfl, rfl, rfl, oc, hgs, Bw⟩ := hrel
    by_cases hlt : i < 256
    · have hiI : 0 ≤ (i : Int) ∧ (i : Int) < 256 := by omega
      have HI := Lib.hid hlt
      obtain ⟨x, hx⟩ := nat_var (f i)
      have hxl : x < 65536 := by rw [hx]; exact Hf.out i
      have HX := Lib.hid hx.symm
      obtain ⟨v, hv⟩ := nat_var (vvN f d i)
      obtain ⟨hcd, hc8⟩ := HC.out
      obtain ⟨y, hy⟩ : ∃ y, y = x := ⟨x, rfl⟩
      subst hy
      have hvy : v = y % 2 ^ d := by rw [hv, vvN, if_neg (by have := HDD.out; omega), hx]
      have hyl : y < 65536 := by omega
      have hyw : IntKind.u32.wrap (y : Int) = (y : Int) := u32_in y (by omega)
      have hd12 := HD.out
      have HLOW := Lib.hid fun w => low_any y d v w (by omega) (by omega) hvy
      have hvl : v < 65536 := by rw [hvy]; exact Nat.lt_of_le_of_lt (Nat.mod_le _ _) hyl
      have hvw : IntKind.u32.wrap (v : Int) = (v : Int) := u32_in v (by omega)
      obtain ⟨T, hT⟩ := nat_var (pk (vvN f d) d i)
      obtain ⟨T2, hT2⟩ := nat_var (pk (vvN f d) d (i + 1))
      have hTT : T2 = T + 2 ^ (d * i) * v := by rw [hT2, hT, hv, pk, Nat.mul_comm]
      obtain ⟨e1, e2, e3⟩ := enc_next T v d i k c (by rw [hT]; exact pk_lt _ _ (vvN_lt f d) i) hcd
      rw [← hTT] at e2 e3
      have hh0 := HH.out
      rw [← hT] at hh0
      rw [← hh0] at e1 e2
      obtain ⟨s, hs⟩ := nat_var (2 ^ c * v)
      obtain ⟨h2, hh2⟩ := nat_var (h + s)
      have hp8 : 2 ^ c ≤ 2 ^ 7 := Nat.pow_le_pow_right (by decide) (by omega)
      have hsl : s ≤ 2 ^ 7 * 65535 := by rw [hs]; exact Nat.mul_le_mul hp8 (by omega)
      have rS := run_shlU v s c (by omega) hs (by omega)
      have hor := or_u32 h c v e1 hvl (by omega)
      rw [← hs, ← hh2] at hor
      have HH2 : Hid (h2 = T2 / 256 ^ k) := Lib.hid (by rw [hh2, hs, e2])
      have hol : litB (pk (vvN f d) d i) k = litB T2 k := by rw [← hT, e3]
      rw [hol] at oc
      obtain ⟨c2, hc2⟩ := nat_var (c + d)
      have hwc2 : IntKind.i64.wrap ((c : Int) + (d : Int)) = (c2 : Int) := by rw [IntWalk.i64_in _ (by omega)]; omega
      have HC2 : Hid (8 * k + c2 = d * (i + 1) ∧ c2 ≤ 20) := Lib.hid ⟨by rw [Nat.mul_succ]; omega, by omega⟩
      have HT2 := Lib.hid hT2
      have HTB : Hid (T2 < 2 ^ (d * (i + 1))) := Lib.hid (by rw [hT2]; exact pk_lt _ _ (vvN_lt f d) (i + 1))
      have hh2w : IntKind.u32.wrap (h2 : Int) = (h2 : Int) := u32_in h2 (by omega)
      clear hx hv hvy hyl hd12 hvl hT hT2 hTT e1 e2 e3 hh0 hs hh2 hp8 hsl hol hc2 hcd hc8 HC HH hi hlt hxl
      replace rS := Lib.hid rS
      go_wp2_with (first
        | (have hgo := HX; clear hgo
           refine wpList_index_py rfl (.tmp 20) (.tmp 21) rfl HI.out rfl rfl HX.out ?_
           clear HX)
        | (refine wpList_binR (o := ⟨some 25, _, _, _, _, _⟩) rfl .eql 3 3 _ _ rfl (fun _ => rfl) rE.out rfl rfl ?_)
        | (have hgo := HLOW; clear hgo
           go_at_call 51
           refine (HLOW.out _).mono ?_
           rintro e w5 ⟨rfl, rfl⟩
           clear HLOW)
        | (have hgo := rS; clear hgo
           refine wpList_binR (o := ⟨some 35, _, _, _, _, _⟩) rfl .shl 84 3 _ _ rfl (fun _ => rfl) rS.out rfl rfl ?_
           clear rS))
      go_loopw [6, 7, 8] (fun out hv cv wr => ∃ k c h : Nat, Hid (8 * k + c = d * (i + 1) ∧ c ≤ 20) ∧ Hid (h = T2 / 256 ^ k) ∧ cv = .int .i64 (c : Int) ∧ hv = .int .u32 (h : Int) ∧ Owns wr g out (litB T2 k) ∧ g < wr.heap.size ∧ Below w.heap.size w wr) (fun _ _ cv _ => (intOf cv).toNat)
      case atStart => exact ⟨k, c2, h2, HC2, HH2, rfl, rfl, oc, hgs, Bw⟩
      case round =>
        clear oc hgs Bw
        obtain ⟨k, c, h, HC, HH, rfl, rfl, oc, hgs, Bw⟩ := hrel
        by_cases h8 : 8 ≤ c
        · have h8I : (8 : Int) ≤ (c : Int) := by omega
          obtain ⟨hcd, hc20⟩ := HC.out
          have hhl : h < 1048576 := by
            have hl := HTB.out
            rw [show d * (i + 1) = 8 * k + c from hcd.symm, Nat.pow_add, ← p256] at hl
            have := Nat.div_lt_of_lt_mul hl
            rw [← HH.out] at this
            exact Nat.lt_of_lt_of_le this (Nat.pow_le_pow_right (by decide) hc20)
          obtain ⟨b, hb⟩ := nat_var (h % 256)
          have hbw : IntKind.u8.wrap (h : Int) = (b : Int) := by rw [IntKind.wrap_u8]; omega
          have HB1 : Hid ((b : Int) = ((UInt8.ofNat h).toNat : Int)) := Lib.hid (by rw [hb, UInt8.toNat_ofNat'])
          obtain ⟨h3, hh3⟩ := nat_var (h / 256)
          have hh4 : (h : Int) / 256 = (h3 : Int) := by omega
          have hh5 : IntKind.u32.wrap ((h : Int) / 256) = (h3 : Int) := by rw [hh4, u32_in _ (by omega)]
          have hh6 : IntKind.u32.wrap (h3 : Int) = (h3 : Int) := u32_in _ (by omega)
          obtain ⟨c3, hc3⟩ := nat_var (c - 8)
          have hwc3 : IntKind.i64.wrap ((c : Int) - 8) = (c3 : Int) := by rw [IntWalk.i64_in _ (by omega)]; omega
          have HC3 : Hid (8 * (k + 1) + c3 = d * (i + 1) ∧ c3 ≤ 20) := Lib.hid ⟨by omega, by omega⟩
          have HH3 : Hid (h3 = T2 / 256 ^ (k + 1)) := Lib.hid (by rw [hh3, HH.out, Nat.div_div_eq_div_mul, Nat.pow_succ])
          have HN : Hid (litB T2 k ++ [UInt8.ofNat h] = litB T2 (k + 1)) := Lib.hid (by rw [litB_next, HH.out])
          have HMS : Hid (c3 < c) := Lib.hid (by omega)
          have HKL : Hid (k ≤ 1000) := Lib.hid (by have h1 := HI.out; have h2 := HD.out; have := Nat.mul_le_mul h2.1 (show i + 1 ≤ 256 from h1); omega)
          clear hcd hc20 hhl hb hh3 hc3 h8
          go_wp2_with (first
            | (have hgo := HB1; clear hgo
               refine wpList_app rfl (.tmp 44) (.tmp 47) rfl g _ _ (litB T2 k) [UInt8.ofNat h] (Owns.alloc oc _) (bs_oneI _ _ _ HB1.out) rfl rfl (by rw [litB_length]; have := HKL.out; simp; omega) (by simp; omega) ?_
               intro v6 w6 oc6 g6
               rw [HN.out] at oc6
               have hgs6 : g < w6.heap.size := Nat.lt_of_lt_of_le (Nat.lt_trans hgs (by simp)) g6.size
               have Bw6 := (Bw.alloc (HGS.out _ Bw) _).grown g6 (HGS.out _ (Bw.alloc (HGS.out _ Bw) _)) (fun k hk => Nat.le_trans HG.out (Owns.block oc k hk))
               clear HB1 oc Bw g6 hgs))
          go_roundw
          case rel => exact ⟨k + 1, c3, h3, HC3, HH3, rfl, rfl, oc6, hgs6, Bw6⟩
          case measure => (have := HMS.out; simp [intOf]; try omega)
        · have h8I : ¬ (8 : Int) ≤ (c : Int) := by omega
          have HC4 : Hid (8 * k + c = d * (i + 1) ∧ c < 8) := Lib.hid ⟨HC.out.1, by omega⟩
          have HI2 : Hid (i + 1 ≤ 256) := Lib.hid HI.out
          rw [HT2.out] at oc
          have HH4 := Lib.hid (HT2.out ▸ HH.out)
          go_wp2
          go_roundw
          case rel => exact ⟨i + 1, k, c, h, HI2.out, HC4, HH4, by go_num, rfl, rfl, oc, hgs, Bw⟩
          case measure => (have := HI2.out; simp [intOf]; try omega)
    · obtain rfl : i = 256 := by omega
      obtain ⟨hcd, hc8⟩ := HC.out
      have hkL : k = 32 * d := by omega
      rw [hkL] at oc
      have oc2 : Owns wr g _ (encL f d) := oc
      clear oc HC HH hcd hc8 hkL
      go_wp2
      go_ret2
      exact ⟨_, rfl, Owns.lower oc2 HG.out, Bw⟩
set_option maxHeartbeats 4000000 in
set_option maxRecDepth 20000 in
theorem rEncode12 (f : Nat → Nat) (d : Nat) (w : World) (hf : ∀ i, f i < 65536) (hd : d = 12) : Calls Tryd.prog 39 #[.agg (arrOf 256 (pyF f)), .int .i64 (d : Int)] w fun e w' => ∃ v, e = .returned (.tuple #[v, .int .i64 0]) ∧ Owns w' w.heap.size v (encL f d) ∧ Below w.heap.size w w' := by
  have Bw0 := Below.refl w.heap.size w
  have HGS : Hid (∀ wq : World, Below w.heap.size w wq → w.heap.size ≤ wq.heap.size) := Lib.hid fun wq h => h.size
  have Hf := Lib.hid hf
  have hd1 : 1 ≤ d := by omega
  have hd2 : d ≤ 12 := by omega
  have hd3 : ¬ (d : Int) < 1 := by omega
  have hd4 : ¬ 12 < (d : Int) := by omega
  have rE := run_eqlI (d : Int) 12 true (decide_eq_true (by omega))
  obtain ⟨L, hL⟩ := nat_var (32 * d)
  have hwL : IntKind.i64.wrap (32 * (d : Int)) = (L : Int) := by rw [IntWalk.i64_in _ (by omega)]; omega
  have HL := Lib.hid hL
  have HD : Hid (d ≤ 12 ∧ 1 ≤ d) := Lib.hid ⟨hd2, hd1⟩
  have HDD := Lib.hid hd
  replace rE := Lib.hid rE
  clear hf hL hd1 hd2 hd
  go_enter Tryd.func39, Tryd.ntmps39
  go_wp2_with (first
    | (have hgo := Bw0; clear hgo
       refine wpList_box_row rfl 34 (.tmp 0) rfl 256 (pyF f) rfl ?_
       intro b_t2 w1 lk r_t2 kk
       have l_t2 := zrl HGS Bw0 lk
       have Bw1 := zbt HGS Bw0 kk
       clear Bw0 kk lk)
    | (have hgo := Bw1; clear hgo
       refine wpList_make0 rfl (.tmp 18) rfl L (by first | rfl | (rw [← hwL]; rfl)) (by have := HL.out; have := HD.out; omega) ?_
       intro g v_o w4 lk lk2 oc kk
       have l_g := Nat.le_trans (HGS.out _ Bw1) lk
       replace r_t2 := zrb r_t2 kk
       have Bw9 := zbt HGS Bw1 kk
       clear Bw1 kk lk)
    | (have hgo := Bw9; clear hgo
       refine wpList_load_as rfl 34 (.tmp 2) rfl 256 (pyF f) arrP r_t2 rfl (by omega) (fun i hi => by rw [Nat.zero_add]) ?_
       have Bw10 := Bw9
       clear Bw9 r_t2))
  have HG := Lib.hid l_g
  clear l_g
  go_loopw [6, 7, 8, 21] (fun out hv cv iv wr => ∃ i k c h : Nat, i ≤ 256 ∧ Hid (8 * k + c = d * i ∧ c < 8) ∧ Hid (h = pk (vvN f d) d i / 256 ^ k) ∧ iv = .int .i64 (i : Int) ∧ cv = .int .i64 (c : Int) ∧ hv = .int .u32 (h : Int) ∧ Owns wr g out (litB (pk (vvN f d) d i) k) ∧ g < wr.heap.size ∧ Below w.heap.size w wr) (fun _ _ _ iv _ => 256 - (intOf iv).toNat)
  case atStart => exact ⟨0, 0, 0, 0, Nat.zero_le _, Lib.hid ⟨by omega, by decide⟩, Lib.hid (Nat.zero_div _).symm, rfl, rfl, rfl, oc, lk2, Bw10⟩
  case round =>
    clear oc lk2 Bw10
    obtain ⟨i, k, c, h, hi, HC, HH, rfl, rfl, rfl, oc, hgs, Bw⟩ := hrel
    by_cases hlt : i < 256
    · have hiI : 0 ≤ (i : Int) ∧ (i : Int) < 256 := by omega
      have HI := Lib.hid hlt
      obtain ⟨x, hx⟩ := nat_var (f i)
      have hxl : x < 65536 := by rw [hx]; exact Hf.out i
      have HX := Lib.hid hx.symm
      obtain ⟨v, hv⟩ := nat_var (vvN f d i)
      obtain ⟨hcd, hc8⟩ := HC.out
      obtain ⟨y, hy⟩ := nat_var (x % 3329)
      have hy2 : (x : Int).tmod 3329 = (y : Int) := by rw [Int.tmod_eq_emod_of_nonneg (by omega)]; omega
      have hy3 : IntKind.u16.wrap ((x : Int).tmod 3329) = (y : Int) := by rw [hy2, u16_in _ (by omega)]
      have hy4 : IntKind.u16.wrap (y : Int) = (y : Int) := u16_in _ (by omega)
      have hvy : v = y % 2 ^ d := by rw [hv, vvN, if_pos HDD.out, HDD.out, ← hx, ← hy, Nat.mod_eq_of_lt (by omega)]
      have hyl : y < 65536 := by omega
      have hyw : IntKind.u32.wrap (y : Int) = (y : Int) := u32_in y (by omega)
      have hd12 := HD.out
      have HLOW := Lib.hid fun w => low_any y d v w (by omega) (by omega) hvy
      have hvl : v < 65536 := by rw [hvy]; exact Nat.lt_of_le_of_lt (Nat.mod_le _ _) hyl
      have hvw : IntKind.u32.wrap (v : Int) = (v : Int) := u32_in v (by omega)
      obtain ⟨T, hT⟩ := nat_var (pk (vvN f d) d i)
      obtain ⟨T2, hT2⟩ := nat_var (pk (vvN f d) d (i + 1))
      have hTT : T2 = T + 2 ^ (d * i) * v := by rw [hT2, hT, hv, pk, Nat.mul_comm]
      obtain ⟨e1, e2, e3⟩ := enc_next T v d i k c (by rw [hT]; exact pk_lt _ _ (vvN_lt f d) i) hcd
      rw [← hTT] at e2 e3
      have hh0 := HH.out
      rw [← hT] at hh0
      rw [← hh0] at e1 e2
      obtain ⟨s, hs⟩ := nat_var (2 ^ c * v)
      obtain ⟨h2, hh2⟩ := nat_var (h + s)
      have hp8 : 2 ^ c ≤ 2 ^ 7 := Nat.pow_le_pow_right (by decide) (by omega)
      have hsl : s ≤ 2 ^ 7 * 65535 := by rw [hs]; exact Nat.mul_le_mul hp8 (by omega)
      have rS := run_shlU v s c (by omega) hs (by omega)
      have hor := or_u32 h c v e1 hvl (by omega)
      rw [← hs, ← hh2] at hor
      have HH2 : Hid (h2 = T2 / 256 ^ k) := Lib.hid (by rw [hh2, hs, e2])
      have hol : litB (pk (vvN f d) d i) k = litB T2 k := by rw [← hT, e3]
      rw [hol] at oc
      obtain ⟨c2, hc2⟩ := nat_var (c + d)
      have hwc2 : IntKind.i64.wrap ((c : Int) + (d : Int)) = (c2 : Int) := by rw [IntWalk.i64_in _ (by omega)]; omega
      have HC2 : Hid (8 * k + c2 = d * (i + 1) ∧ c2 ≤ 20) := Lib.hid ⟨by rw [Nat.mul_succ]; omega, by omega⟩
      have HT2 := Lib.hid hT2
      have HTB : Hid (T2 < 2 ^ (d * (i + 1))) := Lib.hid (by rw [hT2]; exact pk_lt _ _ (vvN_lt f d) (i + 1))
      have hh2w : IntKind.u32.wrap (h2 : Int) = (h2 : Int) := u32_in h2 (by omega)
      clear hx hy hv hvy hyl hd12 hvl hT hT2 hTT e1 e2 e3 hh0 hs hh2 hp8 hsl hol hc2 hcd hc8 HC HH hi hlt hxl
      replace rS := Lib.hid rS
      go_wp2_with (first
        | (have hgo := HX; clear hgo
           refine wpList_index_py rfl (.tmp 20) (.tmp 21) rfl HI.out rfl rfl HX.out ?_
           clear HX)
        | (refine wpList_binR (o := ⟨some 25, _, _, _, _, _⟩) rfl .eql 3 3 _ _ rfl (fun _ => rfl) rE.out rfl rfl ?_)
        | (have hgo := HLOW; clear hgo
           go_at_call 51
           refine (HLOW.out _).mono ?_
           rintro e w5 ⟨rfl, rfl⟩
           clear HLOW)
        | (have hgo := rS; clear hgo
           refine wpList_binR (o := ⟨some 35, _, _, _, _, _⟩) rfl .shl 84 3 _ _ rfl (fun _ => rfl) rS.out rfl rfl ?_
           clear rS))
      go_loopw [6, 7, 8] (fun out hv cv wr => ∃ k c h : Nat, Hid (8 * k + c = d * (i + 1) ∧ c ≤ 20) ∧ Hid (h = T2 / 256 ^ k) ∧ cv = .int .i64 (c : Int) ∧ hv = .int .u32 (h : Int) ∧ Owns wr g out (litB T2 k) ∧ g < wr.heap.size ∧ Below w.heap.size w wr) (fun _ _ cv _ => (intOf cv).toNat)
      case atStart => exact ⟨k, c2, h2, HC2, HH2, rfl, rfl, oc, hgs, Bw⟩
      case round =>
        clear oc hgs Bw
        obtain ⟨k, c, h, HC, HH, rfl, rfl, oc, hgs, Bw⟩ := hrel
        by_cases h8 : 8 ≤ c
        · have h8I : (8 : Int) ≤ (c : Int) := by omega
          obtain ⟨hcd, hc20⟩ := HC.out
          have hhl : h < 1048576 := by
            have hl := HTB.out
            rw [show d * (i + 1) = 8 * k + c from hcd.symm, Nat.pow_add, ← p256] at hl
            have := Nat.div_lt_of_lt_mul hl
            rw [← HH.out] at this
            exact Nat.lt_of_lt_of_le this (Nat.pow_le_pow_right (by decide) hc20)
          obtain ⟨b, hb⟩ := nat_var (h % 256)
          have hbw : IntKind.u8.wrap (h : Int) = (b : Int) := by rw [IntKind.wrap_u8]; omega
          have HB1 : Hid ((b : Int) = ((UInt8.ofNat h).toNat : Int)) := Lib.hid (by rw [hb, UInt8.toNat_ofNat'])
          obtain ⟨h3, hh3⟩ := nat_var (h / 256)
          have hh4 : (h : Int) / 256 = (h3 : Int) := by omega
          have hh5 : IntKind.u32.wrap ((h : Int) / 256) = (h3 : Int) := by rw [hh4, u32_in _ (by omega)]
          have hh6 : IntKind.u32.wrap (h3 : Int) = (h3 : Int) := u32_in _ (by omega)
          obtain ⟨c3, hc3⟩ := nat_var (c - 8)
          have hwc3 : IntKind.i64.wrap ((c : Int) - 8) = (c3 : Int) := by rw [IntWalk.i64_in _ (by omega)]; omega
          have HC3 : Hid (8 * (k + 1) + c3 = d * (i + 1) ∧ c3 ≤ 20) := Lib.hid ⟨by omega, by omega⟩
          have HH3 : Hid (h3 = T2 / 256 ^ (k + 1)) := Lib.hid (by rw [hh3, HH.out, Nat.div_div_eq_div_mul, Nat.pow_succ])
          have HN : Hid (litB T2 k ++ [UInt8.ofNat h] = litB T2 (k + 1)) := Lib.hid (by rw [litB_next, HH.out])
          have HMS : Hid (c3 < c) := Lib.hid (by omega)
          have HKL : Hid (k ≤ 1000) := Lib.hid (by have h1 := HI.out; have h2 := HD.out; have := Nat.mul_le_mul h2.1 (show i + 1 ≤ 256 from h1); omega)
          clear hcd hc20 hhl hb hh3 hc3 h8
          go_wp2_with (first
            | (have hgo := HB1; clear hgo
               refine wpList_app rfl (.tmp 44) (.tmp 47) rfl g _ _ (litB T2 k) [UInt8.ofNat h] (Owns.alloc oc _) (bs_oneI _ _ _ HB1.out) rfl rfl (by rw [litB_length]; have := HKL.out; simp; omega) (by simp; omega) ?_
               intro v6 w6 oc6 g6
               rw [HN.out] at oc6
               have hgs6 : g < w6.heap.size := Nat.lt_of_lt_of_le (Nat.lt_trans hgs (by simp)) g6.size
               have Bw6 := (Bw.alloc (HGS.out _ Bw) _).grown g6 (HGS.out _ (Bw.alloc (HGS.out _ Bw) _)) (fun k hk => Nat.le_trans HG.out (Owns.block oc k hk))
               clear HB1 oc Bw g6 hgs))
          go_roundw
          case rel => exact ⟨k + 1, c3, h3, HC3, HH3, rfl, rfl, oc6, hgs6, Bw6⟩
          case measure => (have := HMS.out; simp [intOf]; try omega)
        · have h8I : ¬ (8 : Int) ≤ (c : Int) := by omega
          have HC4 : Hid (8 * k + c = d * (i + 1) ∧ c < 8) := Lib.hid ⟨HC.out.1, by omega⟩
          have HI2 : Hid (i + 1 ≤ 256) := Lib.hid HI.out
          rw [HT2.out] at oc
          have HH4 := Lib.hid (HT2.out ▸ HH.out)
          go_wp2
          go_roundw
          case rel => exact ⟨i + 1, k, c, h, HI2.out, HC4, HH4, by go_num, rfl, rfl, oc, hgs, Bw⟩
          case measure => (have := HI2.out; simp [intOf]; try omega)
    · obtain rfl : i = 256 := by omega
      obtain ⟨hcd, hc8⟩ := HC.out
      have hkL : k = 32 * d := by omega
      rw [hkL] at oc
      have oc2 : Owns wr g _ (encL f d) := oc
      clear oc HC HH hcd hc8 hkL
      go_wp2
      go_ret2
      exact ⟨_, rfl, Owns.lower oc2 HG.out, Bw⟩
end Go.Proofs.YtflblaccfiigfabDoor

/- The program's polynomials: read from bytes. -/
namespace Go.Proofs.YtflblaccfiigfabDoor
open Go.RowKit Go.Deep
set_option linter.unusedSimpArgs false
set_option linter.unusedVariables false

theorem dec_more (X n a c B : Nat) (h : 8 * n = a + c) (hB : X / 256 ^ n % 256 = B) : X % 256 ^ n / 2 ^ a < 2 ^ c ∧ X % 256 ^ (n + 1) / 2 ^ a = X % 256 ^ n / 2 ^ a + 2 ^ c * B := by
  have e : 256 ^ n = 2 ^ a * 2 ^ c := by rw [p256, h, Nat.pow_add]
  constructor
  · exact Nat.div_lt_of_lt_mul (by rw [← e]; exact Nat.mod_lt _ (p256_pos n))
  · rw [Nat.pow_succ, Nat.mod_mul, hB]
    conv => lhs; rw [e]
    rw [Nat.mul_assoc, Nat.add_mul_div_left _ _ (Nat.pow_pos (by decide)), ← e]
theorem dec_low (X n a b d : Nat) (h : 8 * n = a + b) (hd : d ≤ b) : X % 256 ^ n / 2 ^ a % 2 ^ d = X / 2 ^ a % 2 ^ d := by
  rw [p256, h, Nat.pow_add, Nat.mod_mul_right_div_self, Nat.mod_mod_of_dvd _ (Nat.pow_dvd_pow 2 hd)]
theorem run_shrU (a c k : Nat) (hk : k ≤ 32) (h : c = a / 2 ^ k) (ha : a < 4294967296) (w : World) : (binOp .shr 84 (.int .u32 (a : Int)) (.int .i64 (k : Int))).run Tryd.prog w = .ok (.int .u32 (c : Int)) w := by
  have e : (2 : Int) ^ k = ((2 ^ k : Nat) : Int) := by rw [Int.natCast_pow]; rfl
  have hc : c ≤ a := by rw [h]; exact Nat.div_le_self _ _
  have h4 : (a : Int) / 2 ^ k = (c : Int) := by rw [e, ← Int.natCast_ediv, ← h]
  have h1 : IntKind.u32.wrap ((a : Int) / 2 ^ k) = (c : Int) := by rw [h4, u32_in _ (by omega)]
  have h5 : IntKind.u32.wrap (c : Int) = (c : Int) := u32_in _ (by omega)
  have h0 : 0 ≤ (k : Int) := by omega
  have h2 : ¬ (k : Int) < 0 := by omega
  clear h e hc ha
  go_simp
  all_goals (try rw [Nat.min_eq_left hk])
  all_goals (try exact h4)
theorem may_small (X d : Nat) (hd : d < 12) : mayN (decV X d) = true := mayN_yes fun i _ => Nat.lt_trans (Nat.lt_of_lt_of_le (decV_lt X d i) (Nat.pow_le_pow_right (by decide) (show d ≤ 11 by omega))) (by decide)
set_option maxHeartbeats 4000000 in
set_option maxRecDepth 20000 in
theorem rDecode_ok (d : Nat) (v1 : Value) (l1 : List UInt8) (w : World) (h1 : Bs w v1 l1) (hl : l1.length = 32 * d) (hd1 : 1 ≤ d) (hd2 : d ≤ 12) : Calls Tryd.prog 42 #[.int .i64 (d : Int), v1] w fun e w' => e = .returned (.tuple #[.agg (arrOf 256 (pyF (if mayN (decV (numL l1 (32 * d)) d) then decV (numL l1 (32 * d)) d else fun _ => 0))), .int .i64 (if mayN (decV (numL l1 (32 * d)) d) then 0 else 2)]) ∧ Below w.heap.size w w' := by
  have Bw0 := Below.refl w.heap.size w
  have HGS : Hid (∀ wq : World, Below w.heap.size w wq → w.heap.size ≤ wq.heap.size) := Lib.hid fun wq h => h.size
  obtain ⟨L, hL⟩ := nat_var (32 * d)
  rw [← hL] at hl
  obtain ⟨gb, ob, cb, rfl, hc1, hc2, hbl, hcells⟩ := h1.open_n (n := L) hl (by omega)
  have HB := Lib.hid fun W (hW : Below w.heap.size w W) i (hi : i < l1.length) => bs_cell (h1.below hW (Nat.le_refl _)) i hi
  have HLL := Lib.hid hl
  obtain ⟨X, hX⟩ := nat_var (numL l1 (32 * d))
  rw [← hX]
  rw [← hL] at hX
  have HDG : Hid (∀ n, n < L → X / 256 ^ n % 256 = (l1.getD n 0).toNat) := Lib.hid fun n hn => by rw [hX]; exact numL_dig l1 L n hn
  have HXL : Hid (X < 256 ^ L) := Lib.hid (by rw [hX]; exact numL_lt l1 L)
  have hd3 : ¬ (d : Int) < 1 := by omega
  have hd4 : ¬ 12 < (d : Int) := by omega
  have hd5 : 0 ≤ (d : Int) := by omega
  have hwL : IntKind.i64.wrap (32 * (d : Int)) = (L : Int) := by rw [IntWalk.i64_in _ (by omega)]; omega
  have HL := Lib.hid hL
  have HD : Hid (d ≤ 12 ∧ 1 ≤ d) := Lib.hid ⟨hd2, hd1⟩
  clear hX hL hl h1 hc1 hc2 hbl hcells hd1 hd2
  go_enter Tryd.func42, Tryd.ntmps42
  go_wp2_with (first
    | (have hgo := Bw0; clear hgo
       refine wpList_alloc_row rfl 34 rfl 256 (pyF fun _ => 0) zeroP ?_
       intro b_t4 w1 lk r_t4 kk
       have l_t4 := zrl HGS Bw0 lk
       have Bw1 := zbt HGS Bw0 kk
       clear Bw0 kk lk)
    | (have hgo := Bw1; clear hgo
       refine wpList_alloc_row rfl 34 rfl 256 (pyF fun _ => 0) zeroP ?_
       intro b_t6 w9 lk r_t6 kk
       have n_t4_t6 := zrn r_t4 lk
       have l_t6 := zrl HGS Bw1 lk
       replace r_t4 := zrb r_t4 kk
       have Bw2 := zbt HGS Bw1 kk
       clear Bw1 kk lk))
  replace r_t6 := pyF_congr (g := fun k => if k < 0 then decV X d k else 0) r_t6 fun k _ => (if_neg (Nat.not_lt_zero k)).symm
  go_loopw [7, 8, 9, 24] (fun hv cv nv iv wr => ∃ i n c h : Nat, i ≤ 256 ∧ Hid (8 * n = d * i + c ∧ c < 8) ∧ Hid (h = X % 256 ^ n / 2 ^ (d * i)) ∧ iv = .int .i64 (i : Int) ∧ nv = .int .i64 (n : Int) ∧ cv = .int .i64 (c : Int) ∧ hv = .int .u32 (h : Int) ∧ wr.rowIs b_t4 34 256 (pyF fun _ => 0) ∧ wr.rowIs b_t6 34 256 (pyF fun k => if k < i then decV X d k else 0) ∧ Below w.heap.size w wr) (fun _ _ _ iv _ => 256 - (intOf iv).toNat)
  case atStart => exact ⟨0, 0, 0, 0, Nat.zero_le _, Lib.hid ⟨by omega, by decide⟩, Lib.hid (by rw [Nat.pow_zero, Nat.mod_one, Nat.zero_div]), rfl, rfl, rfl, rfl, r_t4, r_t6, Bw2⟩
  case round =>
    clear r_t4 r_t6 Bw2
    obtain ⟨i, n, c, h, hi, HC, HH, rfl, rfl, rfl, rfl, r_t4, r_t6, Bw⟩ := hrel
    by_cases hlt : i < 256
    · have hiI : 0 ≤ (i : Int) ∧ (i : Int) < 256 := by omega
      have HI := Lib.hid hlt
      have HDI : Hid (d * i + d ≤ 8 * L) := Lib.hid (by have h1 := HL.out; have := Nat.mul_le_mul_left d (show i + 1 ≤ 256 by omega); rw [Nat.mul_succ] at this; omega)
      have HC2 : Hid (8 * n = d * i + c ∧ c < d + 8) := Lib.hid ⟨HC.out.1, by have := HC.out.2; omega⟩
      go_wp2
      go_loopw [7, 8, 9] (fun hv cv nv wr => ∃ n c h : Nat, Hid (8 * n = d * i + c ∧ c < d + 8) ∧ Hid (h = X % 256 ^ n / 2 ^ (d * i)) ∧ nv = .int .i64 (n : Int) ∧ cv = .int .i64 (c : Int) ∧ hv = .int .u32 (h : Int) ∧ wr.rowIs b_t4 34 256 (pyF fun _ => 0) ∧ wr.rowIs b_t6 34 256 (pyF fun k => if k < i then decV X d k else 0) ∧ Below w.heap.size w wr) (fun _ cv _ _ => 20 - (intOf cv).toNat)
      case atStart => exact ⟨n, c, h, HC2, HH, rfl, rfl, rfl, r_t4, r_t6, Bw⟩
      case round =>
        clear r_t4 r_t6 Bw HC HC2 HH
        obtain ⟨n, c, h, HC, HH, rfl, rfl, rfl, r_t4, r_t6, Bw⟩ := hrel
        by_cases hcd : c < d
        · have hcI : (c : Int) < (d : Int) := by omega
          obtain ⟨h8, hc8⟩ := HC.out
          have hd12 := HD.out
          have hnL : n < L := by have := HDI.out; omega
          have hnI : 0 ≤ (n : Int) ∧ (n : Int) < (L : Int) := by omega
          have hLl : L ≤ 384 := by have := HL.out; omega
          have hcell := HB.out _ Bw n (by rw [HLL.out]; exact hnL)
          rw [← getD_at l1 n (by rw [HLL.out]; exact hnL)] at hcell
          obtain ⟨B, hB⟩ := nat_var (l1.getD n 0).toNat
          have hBl : B < 256 := by rw [hB]; exact UInt8.toNat_lt _
          rw [← hB] at hcell
          obtain ⟨e1, e2⟩ := dec_more X n (d * i) c B h8 (by rw [HDG.out n hnL, hB])
          rw [← HH.out] at e1 e2
          obtain ⟨s, hs⟩ := nat_var (2 ^ c * B)
          obtain ⟨h2, hh2⟩ := nat_var (h + s)
          have hp8 : 2 ^ c ≤ 2 ^ 11 := Nat.pow_le_pow_right (by decide) (by omega)
          have hsl : s ≤ 2 ^ 11 * 255 := by rw [hs]; exact Nat.mul_le_mul hp8 (by omega)
          have rS := run_shlU B s c (by omega) hs (by omega)
          have hor := or_u32 h c B e1 (by omega) (by omega)
          rw [← hs, ← hh2] at hor
          have hbw : IntKind.u32.wrap (B : Int) = (B : Int) := u32_in _ (by omega)
          have hhw : IntKind.u32.wrap (h2 : Int) = (h2 : Int) := u32_in _ (by omega)
          obtain ⟨n2, hn2⟩ := nat_var (n + 1)
          have hwn2 : IntKind.i64.wrap ((n : Int) + 1) = (n2 : Int) := by rw [IntWalk.i64_in _ (by omega)]; omega
          obtain ⟨c2, hc2⟩ := nat_var (c + 8)
          have hwc2 : IntKind.i64.wrap ((c : Int) + 8) = (c2 : Int) := by rw [IntWalk.i64_in _ (by omega)]; omega
          have HC2 : Hid (8 * n2 = d * i + c2 ∧ c2 < d + 8) := Lib.hid ⟨by omega, by omega⟩
          have HH2 : Hid (h2 = X % 256 ^ n2 / 2 ^ (d * i)) := Lib.hid (by rw [hh2, hs, hn2, e2])
          have HMS : Hid (20 - c2 < 20 - c) := Lib.hid (by omega)
          clear h8 hc8 hd12 hnL hB hBl e1 e2 hs hh2 hp8 hsl hn2 hc2 hLl hcd
          replace rS := Lib.hid rS
          go_wp2_with (first
            | (have hgo := rS; clear hgo
               refine wpList_binR (o := ⟨some 39, _, _, _, _, _⟩) rfl .shl 84 3 _ _ rfl (fun _ => rfl) rS.out rfl rfl ?_
               clear rS))
          go_roundw
          case rel => exact ⟨n2, c2, h2, HC2, HH2, rfl, rfl, rfl, r_t4, r_t6, Bw⟩
          case measure => (have := HMS.out; simp [intOf]; try omega)
        · have hcI : ¬ (c : Int) < (d : Int) := by omega
          obtain ⟨h8, hc8⟩ := HC.out
          have hd12 := HD.out
          obtain ⟨e1, _⟩ := dec_more X n (d * i) c _ h8 rfl
          rw [← HH.out] at e1
          have hhl : h < 1048576 := Nat.lt_of_lt_of_le e1 (Nat.pow_le_pow_right (by decide) (show c ≤ 20 by omega))
          obtain ⟨v, hv⟩ := nat_var (h % 2 ^ d)
          have hvd : v = decV X d i := by rw [hv, HH.out, dec_low X n (d * i) c d h8 (by omega)]; rfl
          have HLOW := Lib.hid fun w => low_any h d v w (by omega) (by omega) hv
          obtain ⟨h3, hh3⟩ := nat_var (h / 2 ^ d)
          have rS := run_shrU h h3 d (by omega) hh3 (by omega)
          obtain ⟨c3, hc3⟩ := nat_var (c - d)
          have hwc3 : IntKind.i64.wrap ((c : Int) - (d : Int)) = (c3 : Int) := by rw [IntWalk.i64_in _ (by omega)]; omega
          obtain ⟨i2, hi2⟩ := nat_var (i + 1)
          have hwi2 : IntKind.i64.wrap ((i : Int) + 1) = (i2 : Int) := by rw [IntWalk.i64_in _ (by omega)]; omega
          have HC3 : Hid (8 * n = d * i2 + c3 ∧ c3 < 8) := Lib.hid ⟨by rw [hi2, Nat.mul_succ]; omega, by omega⟩
          have HH3 : Hid (h3 = X % 256 ^ n / 2 ^ (d * i2)) := Lib.hid (by rw [hh3, HH.out, Nat.div_div_eq_div_mul, ← Nat.pow_add, hi2, Nat.mul_succ])
          have HI2 : Hid (i2 ≤ 256 ∧ 256 - i2 < 256 - i) := Lib.hid (by have := HI.out; omega)
          have HS : Hid (∀ k, k < 256 → (fun k => if k < i2 then decV X d k else 0) k = if k = i then v else (fun k => if k < i then decV X d k else 0) k) := Lib.hid fun k hk => by
            show (if k < i2 then _ else _) = if k = i then v else if k < i then _ else _
            by_cases e : k = i
            · rw [if_pos (by omega), if_pos e, e, hvd]
            · rw [if_neg e]
              by_cases h2 : k < i
              · rw [if_pos h2, if_pos (by omega)]
              · rw [if_neg h2, if_neg (by omega)]
          clear h8 hc8 hd12 e1 hhl hv hvd hh3 hc3 hi2 hcd
          replace rS := Lib.hid rS
          go_wp2_with (first
            | (have hgo := HLOW; clear hgo
               go_at_call 51
               refine (HLOW.out _).mono ?_
               rintro e w5 ⟨rfl, rfl⟩
               clear HLOW)
            | (have hgo := rS; clear hgo
               refine wpList_binR (o := ⟨some 50, _, _, _, _, _⟩) rfl .shr 84 3 _ _ rfl (fun _ => rfl) rS.out rfl rfl ?_
               clear rS)
            | (have hgo := HS; clear hgo
               refine wpList_store_py rfl (.tmp 47) (.tmp 46) rfl (fun k => if k < i2 then decV X d k else 0) r_t6 HI.out rfl rfl HS.out ?_
               intro w7 q7 g7
               replace r_t4 := gb_rowIs r_t4 g7 n_t4_t6
               have Bw3 := Bw.grown g7 (HGS.out _ Bw) (by intro k hk; cases hk; exact l_t6)
               clear Bw g7 r_t6 HS))
          go_roundw
          case rel => exact ⟨i2, n, c3, h3, HI2.out.1, HC3, HH3, rfl, rfl, rfl, rfl, r_t4, q7, Bw3⟩
          case measure => (have := HI2.out.2; simp [intOf]; try omega)
    · obtain rfl : i = 256 := by omega
      replace r_t6 : wr.rowIs b_t6 34 256 (pyF (decV X d)) := pyF_congr r_t6 fun k hk => if_pos hk
      have HM := Lib.hid fun w => rMay_any (decV X d) w fun i => Nat.lt_of_lt_of_le (decV_lt X d i) (Nat.le_trans (Nat.pow_le_pow_right (by decide) HD.out.1) (by decide))
      have Bw0 := Bw
      clear Bw HC HH
      by_cases hm : mayN (decV X d) = true
      · have hm0 : mayN (decV X d) = true := by simpa using hm
        rw [hm0] at HM
        clear hm0
        have HMM := Lib.hid hm
        clear hm
        go_wp2_with (first
          | (have hgo := Bw0; clear hgo
             refine wpList_load_as rfl 34 (.tmp 6) rfl 256 (pyF (decV X d)) arrP r_t6 rfl (by omega) (fun i hi => by rw [Nat.zero_add]) ?_
             have Bw1 := Bw0
             clear Bw0)
          | (have hgo := Bw1; clear hgo
             go_at_call 59
             refine (HM.out _).mono ?_
             rintro e w502 ⟨rfl, kk⟩
             replace r_t4 := zrb r_t4 kk
             replace r_t6 := zrb r_t6 kk
             have Bw2 := zbt HGS Bw1 kk
             clear Bw1 kk)
          | (have hgo := Bw2; clear hgo
             refine wpList_load_as rfl 34 (.tmp 6) rfl 256 (pyF (decV X d)) arrP r_t6 rfl (by omega) (fun i hi => by rw [Nat.zero_add]) ?_
             have Bw3 := Bw2
             clear Bw2)
          | (have hgo := Bw3; clear hgo
             refine wpList_store_as rfl 34 (.tmp 4) (.tmp 59) rfl 256 (pyF (decV X d)) arrP r_t4 rfl rfl (by omega) (fun _ _ => rfl) (fun i hi => putN_whole hi) ?_
             intro w505 q gk
             replace r_t6 := gb_rowIs r_t6 gk (Ne.symm n_t4_t6)
             replace r_t4 := q
             have Bw4 := zbg HGS Bw3 gk l_t4
             clear Bw3 gk q))
        exact ret_cell_as_tmp _ rfl arrP r_t4 rfl rfl (by omega) (fun _ _ => rfl) rfl ⟨rfl, Bw4⟩
      · have hm0 : mayN (decV X d) = false := by simpa using hm
        rw [hm0] at HM
        clear hm0
        have HMM := Lib.hid hm
        clear hm
        go_wp2_with (first
          | (have hgo := Bw0; clear hgo
             refine wpList_load_as rfl 34 (.tmp 6) rfl 256 (pyF (decV X d)) arrP r_t6 rfl (by omega) (fun i hi => by rw [Nat.zero_add]) ?_
             have Bw1 := Bw0
             clear Bw0)
          | (have hgo := Bw1; clear hgo
             go_at_call 59
             refine (HM.out _).mono ?_
             rintro e w502 ⟨rfl, kk⟩
             replace r_t4 := zrb r_t4 kk
             replace r_t6 := zrb r_t6 kk
             have Bw2 := zbt HGS Bw1 kk
             clear Bw1 kk)
          | (have hgo := Bw2; clear hgo
             refine wpList_build_arr rfl 34 #[] rfl (arrOf 256 (pyF (fun _ => 0))) ?_ ?_
             · simp only [List.map_toArray, List.map_cons, List.map_nil]; exact builtP0
             have Bw3 := Bw2
             clear Bw2)
          | (have hgo := Bw3; clear hgo
             refine wpList_store_as rfl 34 (.tmp 4) (.tmp 58) rfl 256 (pyF (fun _ => 0)) arrP r_t4 rfl rfl (by omega) (fun _ _ => rfl) (fun i hi => putN_whole hi) ?_
             intro w505 q gk
             replace r_t6 := gb_rowIs r_t6 gk (Ne.symm n_t4_t6)
             replace r_t4 := q
             have Bw4 := zbg HGS Bw3 gk l_t4
             clear Bw3 gk q))
        exact ret_cell_as_tmp _ rfl arrP r_t4 rfl rfl (by omega) (fun _ _ => rfl) rfl ⟨rfl, Bw4⟩
end Go.Proofs.YtflblaccfiigfabDoor

/- The program's polynomials: Noise. -/
namespace Go.Proofs.YtflblaccfiigfabDoor
open Go.RowKit Go.Deep
set_option linter.unusedSimpArgs false
set_option linter.unusedVariables false

theorem pop8_tab : ∀ i : Fin 4, ((Lib.pop8tab[i.val]?).getD 0).toNat = i.val % 2 + i.val / 2 := by decide +kernel
theorem pop8_nat (i x : Nat) (hi : i < 4) (hx : x = i % 2 + i / 2) : Lib.pop8 (i : Int) = (x : Int) := by
  have h := pop8_tab ⟨i, hi⟩
  rw [Lib.pop8, Int.toNat_natCast, h, hx]
theorem ones8_any (i x : Nat) (w : World) (hi : i < 4) (hx : x = i % 2 + i / 2) : Calls Tryd.prog 60 #[.int .u8 (i : Int)] w fun e w' => e = .returned (.int .i64 (x : Int)) ∧ w' = w := by
  have hr : Lib.pop8 (i : Int) = (x : Int) := pop8_nat i x hi hx
  have hi0 : 0 ≤ (i : Int) := by omega
  have hi1 : (i : Int) ≤ 255 := by omega
  have h1 : IntKind.i64.wrap (x : Int) = (x : Int) := IntWalk.i64_in _ (by omega)
  have h2 : wrap64 (x : Int) = (x : Int) := by unfold wrap64; omega
  clear hx hi
  go_enter Tryd.func60, Tryd.ntmps60
  go_wp2
  go_ret
  exact ⟨rfl, rfl⟩
theorem ones_any (i x : Nat) (w : World) (hi : i < 4) (hx : x = i % 2 + i / 2) : Calls Tryd.prog 49 #[.int .u8 (i : Int)] w fun e w' => e = .returned (.int .u16 (x : Int)) ∧ w' = w := by
  have HC := Lib.hid fun w => ones8_any i x w hi hx
  have h1 := u16_in x (by omega)
  clear hx hi
  go_enter Tryd.func49, Tryd.ntmps49
  go_wp2_with (first
    | (have hgo := HC; clear hgo
       go_at_call 60
       refine (HC.out _).mono ?_
       rintro e w1 ⟨rfl, rfl⟩
       clear HC))
  go_ret
  exact ⟨rfl, rfl⟩
theorem and3_u8 (d : Nat) (h : d < 256) : bits .and .u8 (d : Int) 3 = ((d % 4 : Nat) : Int) := by
  have g : ∀ d : Fin 256, bits .and .u8 ((d.val : Nat) : Int) 3 = ((d.val % 4 : Nat) : Int) := by decide +kernel
  exact g ⟨d, h⟩
theorem noise_bits (c : List UInt8) (i x s d : Nat) (hx : x = (c.getD (i / 2) 0).toNat) (hs : s = 4 * (i % 2)) (hd : d = x / 2 ^ s) :
    noiseN c i = (d % 4 % 2 + d % 4 / 2 + (3329 - (d / 4 % 4 % 2 + d / 4 % 4 / 2) % 3329)) % 3329 := by
  have hb : ∀ j, j < 4 → bitL c (4 * i + j) = d / 2 ^ j % 2 := fun j hj => by
    unfold bitL
    rw [show (4 * i + j) / 8 = i / 2 by omega, ← hx, show (4 * i + j) % 8 = s + j by omega, Nat.pow_add, ← Nat.div_div_eq_div_mul, ← hd]
  have h0 := hb 0 (by decide)
  have h1 := hb 1 (by decide)
  have h2 := hb 2 (by decide)
  have h3 := hb 3 (by decide)
  simp only [Nat.add_zero, Nat.pow_zero, Nat.div_one, Nat.reducePow] at h0 h1 h2 h3
  unfold noiseN
  rw [h0, h1, h2, h3, show d % 4 % 2 = d % 2 by omega, show d % 4 / 2 = d / 2 % 2 by omega, show d / 4 % 4 % 2 = d / 4 % 2 by omega, show d / 4 % 4 / 2 = d / 8 % 2 by omega]
  have k0 : d % 2 < 2 := Nat.mod_lt _ (by decide)
  have k1 : d / 2 % 2 < 2 := Nat.mod_lt _ (by decide)
  have k2 : d / 4 % 2 < 2 := Nat.mod_lt _ (by decide)
  have k3 : d / 8 % 2 < 2 := Nat.mod_lt _ (by decide)
  generalize d % 2 = b0 at *
  generalize d / 2 % 2 = b1 at *
  generalize d / 4 % 2 = b2 at *
  generalize d / 8 % 2 = b3 at *
  clear hb h0 h1 h2 h3 hd hx
  omega
set_option maxHeartbeats 4000000 in
set_option maxRecDepth 20000 in
theorem rNoise_any (v0 : Value) (l0 : List UInt8) (n : UInt8) (w : World) (hL : Laid3 w) (h0 : Bs w v0 l0) : Calls Tryd.prog 28 #[v0, .int .u8 ((n.toNat : Nat) : Int)] w fun e w' => e = .returned (.agg (arrOf 256 (pyF (noiseN (spongeL 136 31 [l0, [n]].flatten 128))))) ∧ Below w.heap.size w w' := by
  have Bw0 := Below.refl w.heap.size w
  have HGS : Hid (∀ wq : World, Below w.heap.size w wq → w.heap.size ≤ wq.heap.size) := Lib.hid fun wq h => h.size
  have f_s0 := h0
  have HF_s0 := Lib.hid h0
  have HT := Lib.hid hL
  obtain ⟨CL, hCL⟩ : ∃ C, C = spongeL 136 31 [l0, [n]].flatten 128 := ⟨_, rfl⟩
  rw [← hCL]
  have HCL : Hid (CL.length = 128) := Lib.hid (by rw [hCL]; exact spongeL_length _ _ _ _)
  have HSH : Hid (∀ v W, Laid3 W → Bss W v [l0, [n]] → Calls Tryd.prog 47 #[.int .i64 128, v] W fun e w' => ∃ v', e = .returned v' ∧ Bs w' v' CL ∧ Below W.heap.size W w') := Lib.hid fun v W hW hB => by
    rw [hCL]
    exact shake256_any 128 v [l0, [n]] W hW hB (by decide)
  clear h0 hL hCL
  go_enter Tryd.func28, Tryd.ntmps28
  go_wp2_with (first
    | (have hgo := Bw0; clear hgo
       refine wpList_alloc_row rfl 34 rfl 256 (pyF fun _ => 0) zeroP ?_
       intro b_t4 w1 lk r_t4 kk
       have l_t4 := zrl HGS Bw0 lk
       have a_s0_t4 := Bs.away f_s0 lk
       replace f_s0 := zfb f_s0 kk
       have Bw1 := zbt HGS Bw0 kk
       clear Bw0 kk lk)
    | (have hgo := Bw1; clear hgo
       refine wpList_one rfl (.tmp 10) rfl n rfl ?_
       intro v_s11 w4 f_s11 kk
       replace r_t4 := zrb r_t4 kk
       replace f_s0 := zfb f_s0 kk
       have Bw2 := zbt HGS Bw1 kk
       clear Bw1 kk)
    | (have hgo := Bw2; clear hgo
       refine wpList_rows2 rfl (.tmp 9) (.tmp 11) rfl f_s0 f_s11 rfl rfl ?_
       intro v_r12 w5 F_r12 kk
       replace r_t4 := zrb r_t4 kk
       replace f_s0 := zfb f_s0 kk
       replace f_s11 := zfb f_s11 kk
       have Bw3 := zbt HGS Bw2 kk
       clear Bw2 kk)
    | (have hgo := Bw3; clear hgo
       go_at_call 47
       refine (HSH.out _ _ (HT.out.below Bw3 HT.out.size) F_r12).mono ?_
       rintro e w6 ⟨v_s13, rfl, f_s13, kk⟩
       replace r_t4 := zrb r_t4 kk
       replace f_s0 := zfb f_s0 kk
       replace f_s11 := zfb f_s11 kk
       have Bw4 := zbt HGS Bw3 kk
       clear Bw3 kk)
    | (have hgo := Bw4; clear hgo
       refine wpList_alloc_row rfl 34 rfl 256 (pyF fun _ => 0) zeroP ?_
       intro b_t6 w8 lk r_t6 kk
       have n_t4_t6 := zrn r_t4 lk
       have l_t6 := zrl HGS Bw4 lk
       have a_s0_t6 := Bs.away f_s0 lk
       have a_s11_t6 := Bs.away f_s11 lk
       have a_s13_t6 := Bs.away f_s13 lk
       replace r_t4 := zrb r_t4 kk
       replace f_s0 := zfb f_s0 kk
       replace f_s11 := zfb f_s11 kk
       replace f_s13 := zfb f_s13 kk
       have Bw5 := zbt HGS Bw4 kk
       clear Bw4 kk lk))
  obtain ⟨gb, ob, cb, rfl, hb1, hb2, hb3, hb4⟩ := f_s13.open_n (n := 128) HCL.out (by decide)
  have HAW := Lib.hid a_s13_t6
  clear hb1 hb2 hb3 hb4 a_s13_t6
  go_loopw [14] (fun iv wr => ∃ i : Nat, i ≤ 256 ∧ iv = .int .i64 (i : Int) ∧ Bs wr (.slice (some ⟨gb, ob, none⟩) 128 cb) CL ∧ wr.rowIs b_t4 34 256 (pyF fun _ => 0) ∧ wr.rowIs b_t6 34 256 (pyF fun k => if k < i then noiseN CL k else 0) ∧ Below w.heap.size w wr) (fun iv _ => 256 - (intOf iv).toNat)
  case atStart => exact ⟨0, by omega, rfl, f_s13, r_t4, pyF_congr r_t6 (fun k _ => (if_neg (Nat.not_lt_zero k)).symm), Bw5⟩
  case round =>
    clear f_s13 f_s0 f_s11 r_t4 r_t6 Bw5
    obtain ⟨i, hi, rfl, f_c, r_t4, r_t6, Bw⟩ := hrel
    by_cases hlt : i < 256
    · have hiI : 0 ≤ (i : Int) ∧ (i : Int) < 256 := by omega
      have HI := Lib.hid hlt
      have HI1 : Hid (i + 1 ≤ 256) := Lib.hid hlt
      obtain ⟨q, hq⟩ := nat_var (i / 2)
      obtain ⟨p, hp⟩ := nat_var (i % 2)
      obtain ⟨s, hs⟩ := nat_var (4 * p)
      have hql : q < CL.length := by rw [HCL.out]; omega
      have hc1 := bs_cell f_c q hql
      rw [← getD_at CL q hql] at hc1
      obtain ⟨x, hx⟩ := nat_var (CL.getD q 0).toNat
      have hxl : x < 256 := by rw [hx]; exact UInt8.toNat_lt _
      rw [← hx] at hc1
      obtain ⟨d, hd⟩ := nat_var (x / 2 ^ s)
      have hdl : d < 256 := by rw [hd]; exact Nat.lt_of_le_of_lt (Nat.div_le_self _ _) hxl
      obtain ⟨a, ha⟩ := nat_var (d % 4)
      obtain ⟨e, he⟩ := nat_var (d / 4)
      obtain ⟨b, hb⟩ := nat_var (e % 4)
      obtain ⟨u, hu⟩ := nat_var (a % 2 + a / 2)
      obtain ⟨v, hv⟩ := nat_var (b % 2 + b / 2)
      obtain ⟨z, hz⟩ := nat_var ((u + (3329 - v % 3329)) % 3329)
      have hn : noiseN CL i = z := by rw [noise_bits CL i x s d (by rw [hx, hq]) (by rw [hs, hp]) hd, hz, hu, hv, hb, he, ha]
      have hand1 := and3_u8 d hdl
      rw [← ha] at hand1
      have hand2 := and3_u8 e (by omega)
      rw [← hb] at hand2
      have hm1 : (d : Int) % 4 = (a : Int) := by omega
      have hm2 : (e : Int) % 4 = (b : Int) := by omega
      have hdv : (d : Int) / 4 = (e : Int) := by omega
      have hdw : IntKind.u8.wrap ((d : Int) / 4) = (e : Int) := by rw [hdv, IntKind.wrap_u8]; omega
      have hew : IntKind.u8.wrap (e : Int) = (e : Int) := by rw [IntKind.wrap_u8]; omega
      have haw : IntKind.u8.wrap (a : Int) = (a : Int) := by rw [IntKind.wrap_u8]; omega
      have hbw : IntKind.u8.wrap (b : Int) = (b : Int) := by rw [IntKind.wrap_u8]; omega
      have HO1 := Lib.hid fun w => ones_any a u w (by omega) hu
      have HO2 := Lib.hid fun w => ones_any b v w (by omega) hv
      have HDF := Lib.hid fun w => rdiff_any u v z w (by omega) (by omega) hz
      have HS : Hid (∀ k, k < 256 → (fun k => if k < i + 1 then noiseN CL k else 0) k = if k = i then z else (fun k => if k < i then noiseN CL k else 0) k) := Lib.hid fun k hk => by
        show (if k < i + 1 then _ else _) = if k = i then z else if k < i then _ else _
        by_cases e : k = i
        · rw [if_pos (by omega), if_pos e, e, hn]
        · rw [if_neg e]
          by_cases h2 : k < i
          · rw [if_pos h2, if_pos (by omega)]
          · rw [if_neg h2, if_neg (by omega)]
      have hqI : 0 ≤ (q : Int) ∧ (q : Int) < 128 := by omega
      have hquo : IntKind.i64.wrap ((i : Int).tdiv 2) = (q : Int) := by rw [Int.tdiv_eq_ediv_of_nonneg (by omega), IntWalk.i64_in _ (by omega)]; omega
      have hquo2 : IntKind.i64.wrap ((i : Int) / 2) = (q : Int) := by rw [IntWalk.i64_in _ (by omega)]; omega
      have hrem : IntKind.i64.wrap ((i : Int).tmod 2) = (p : Int) := by rw [Int.tmod_eq_emod_of_nonneg (by omega), IntWalk.i64_in _ (by omega)]; omega
      have hrem2 : (i : Int).tmod 2 = (p : Int) := by rw [Int.tmod_eq_emod_of_nonneg (by omega)]; omega
      have hmul : IntKind.i64.wrap ((p : Int) * 4) = (s : Int) := by rw [IntWalk.i64_in _ (by omega)]; omega
      have HX := Lib.hid hxl
      have HD := Lib.hid hd
      have HS8 : Hid (s < 8) := Lib.hid (by omega)
      clear hq hp hs hql hx hxl hd hdl ha he hb hu hv hz hn hlt
      go_wp2_with (first
        | refine wpList_shr8 rfl (.tmp 21) (.tmp 24) rfl rfl rfl HD.out HS8.out HX.out ?_
        | (have hgo := HO1; clear hgo
           go_at_call 49
           refine (HO1.out _).mono ?_
           rintro e w5 ⟨rfl, rfl⟩
           clear HO1)
        | (have hgo := HO2; clear hgo
           go_at_call 49
           refine (HO2.out _).mono ?_
           rintro e w6 ⟨rfl, rfl⟩
           clear HO2)
        | (have hgo := HDF; clear hgo
           go_at_call 48
           refine (HDF.out _).mono ?_
           rintro e w6 ⟨rfl, rfl⟩
           clear HDF)
        | (have hgo := HS; clear hgo
           refine wpList_store_py rfl (.tmp 35) (.tmp 34) rfl (fun k => if k < i + 1 then noiseN CL k else 0) r_t6 HI.out rfl rfl HS.out ?_
           intro w7 q7 g7
           replace r_t4 := gb_rowIs r_t4 g7 n_t4_t6
           replace f_c := gb_bs f_c g7 HAW.out
           have Bw3 := Bw.grown g7 (HGS.out _ Bw) (by intro k hk; cases hk; exact l_t6)
           clear Bw g7 r_t6 HS))
      go_roundw
      case rel => exact ⟨i + 1, HI1.out, by go_num, f_c, r_t4, q7, Bw3⟩
      case measure => (have := HI1.out; simp [intOf]; try omega)
    · obtain rfl : i = 256 := by omega
      replace r_t6 : wr.rowIs b_t6 34 256 (pyF (noiseN CL)) := pyF_congr r_t6 fun k hk => if_pos hk
      have Bw0 := Bw
      clear Bw f_c
      go_wp2_with (first
        | (have hgo := Bw0; clear hgo
           refine wpList_load_as rfl 34 (.tmp 6) rfl 256 (pyF (noiseN CL)) arrP r_t6 rfl (by omega) (fun i hi => by rw [Nat.zero_add]) ?_
           have Bw1 := Bw0
           clear Bw0)
        | (have hgo := Bw1; clear hgo
           refine wpList_store_as rfl 34 (.tmp 4) (.tmp 37) rfl 256 (pyF (noiseN CL)) arrP r_t4 rfl rfl (by omega) (fun _ _ => rfl) (fun i hi => putN_whole hi) ?_
           intro w502 q gk
           replace r_t6 := gb_rowIs r_t6 gk (Ne.symm n_t4_t6)
           replace r_t4 := q
           have Bw2 := zbg HGS Bw1 gk l_t4
           clear Bw1 gk q))
      exact ret_cell_as _ rfl arrP r_t4 rfl (by omega) (fun _ _ => rfl) rfl ⟨rfl, Bw2⟩
end Go.Proofs.YtflblaccfiigfabDoor

/- ML-KEM of the document: three polynomials, read of bytes. -/
namespace Go.Proofs.YtflblaccfiigfabDoor
open Go.RowKit Go.Deep
set_option linter.unusedSimpArgs false
set_option linter.unusedVariables false

/-- 's[j:h]'. -/
theorem partB {w : World} {v : Value} {l : List UInt8} (h : Bs w v l) (j k : Nat) (hj : j ≤ k) (hk : k ≤ l.length) :
    ∃ v', Bs w v' ((l.take k).drop j) ∧ ∀ (ρ : Operand → Value) (x lo hi : Operand) (t : TypeId) (w0 : World), ρ x = v → ρ lo = .int .i64 (j : Int) → ρ hi = .int .i64 (k : Int) → (execOp ρ (mkOp (.slice 22 x (some lo) (some hi) none) t)).run Tryd.prog w0 = .ok (.value v') w0 := by
  obtain ⟨ad, n, cap, rfl, hn, hc1, hc2, hB⟩ := h.shape
  have h1 := hB.take (k := k) (by omega)
  refine ⟨_, h1.drop (k := j) hj, fun ρ x lo hi t w0 hx hl hh => ?_⟩
  simp [execOp, mkOp, hx, hl, hh, run_sliceCut (P := Tryd.prog) w0 22 5 ad n cap j k .i64 .i64 Tryd.underlying22 (by kernel_rfl) hj (by omega), Result.andThen]
end Go.Proofs.YtflblaccfiigfabDoor
