/- The program's sponge: what lays a byte, the turn, what is taken in, the closing, what is given out. -/
import Derived.Test.YtmfogngfdgpahaaDoorKecC
namespace Go.Proofs.YtmfogngfdgpahaaDoor
open Go.RowKit Go.Deep

/-- A sponge in memory: its lanes, its rate, its place. -/
def spF (s : Nat → BitVec 64) (r i : Nat) : Nat → Value := fun k => if k < 25 then .int .u64 ((s k).toNat : Int) else if k = 25 then .int .i64 (r : Int) else .int .i64 (i : Int)
theorem spF_lane (s : Nat → BitVec 64) (r i k : Nat) (h : k < 25) : spF s r i k = .int .u64 ((s k).toNat : Int) := by unfold spF; rw [if_pos h]
theorem spF_rate (s : Nat → BitVec 64) (r i : Nat) : spF s r i 25 = .int .i64 (r : Int) := rfl
theorem spF_at (s : Nat → BitVec 64) (r i : Nat) : spF s r i 26 = .int .i64 (i : Int) := rfl
theorem spF_set (s : Nat → BitVec 64) (r i j k : Nat) (hk : k < 27) : (if k = 26 then (.int .i64 (j : Int) : Value) else spF s r i k) = spF s r j k := by
  unfold spF
  by_cases e : k = 26
  · subst e; rfl
  · rw [if_neg e]
    by_cases e1 : k < 25
    · rw [if_pos e1, if_pos e1]
    · rw [if_neg e1, if_neg e1, if_pos (by omega), if_pos (by omega)]
theorem byte_val (x : Nat) (hx : x < 256) (k : Nat) : IntKind.u64.wrap ((x : Int) * 2 ^ k) = ((BitVec.ofNat 64 x <<< k).toNat : Int) := by
  rw [← shl64, ofNat64 x (by omega)]
  rfl

set_option maxHeartbeats 800000 in
theorem play_any (y : Nat) (t : TypeId) (s : Nat → BitVec 64) (r p i x : Nat) (w : World) (hrow : w.rowIs y t 27 (spF s r p)) (hi : i < 200) (hx : x < 256) :
    Calls Tryd.prog 33 #[.pointer (some ⟨y, 0, none⟩), .int .i64 (i : Int), .int .u8 (x : Int)] w fun e w' => e = .returned (.tuple #[]) ∧ w'.rowIs y t 27 (spF (layB s i x) r p) ∧ w.grownBy w' (some y) := by
  have c0 := hrow.cell (i := i / 8) (by omega)
  rw [spF_lane _ _ _ _ (by omega)] at c0
  have hfr := hrow.frozen (i / 8)
  have b0 : (0 : Int) ≤ (i : Int) := by omega
  have b1 : ((i / 8 : Nat) : Int) < 25 := by omega
  have b2 : (i : Int) < 200 := by omega
  have b3 : (x : Int) ≤ 255 := by omega
  go_enter Tryd.func33, Tryd.ntmps33
  go_wp2
  go_region
  go_wp2
  go_end0
  refine ⟨rfl, ((hrow.set (i / 8) _).drew).congr fun k hk => ?_, gb_drew (gb_setb (grownBy_refl _ _) _) 1⟩
  show (if k = i / 8 then _ else _) = _
  by_cases e : k = i / 8
  · rw [if_pos e, e, spF_lane _ _ _ _ (by omega)]
    unfold layB
    rw [if_pos rfl]
    refine congrArg (Value.int .u64) ?_
    rw [Nat.mul_comm 8 (i % 8), byte_val x hx, xor64]
  · rw [if_neg e]
    unfold spF layB
    by_cases e1 : k < 25
    · rw [if_pos e1, if_pos e1, if_neg e]
    · rw [if_neg e1, if_neg e1]

/-- A struct of a known row is loaded, stored, as arrays are. -/
theorem arrSponge : IsArr Tryd.prog 57 27 := ⟨by kernel_rfl, by kernel_rfl⟩
theorem spF_lanes (s : Nat → BitVec 64) (r i : Nat) : arrOf 25 (fun k => spF s r i (0 + k)) = arrOf 25 (l64 s) := arrOf_congr fun k hk => by rw [Nat.zero_add, spF_lane _ _ _ _ hk]; rfl
theorem spF_put (s s' : Nat → BitVec 64) (r i k : Nat) (_hk : k < 27) : putN (spF s r i) 0 25 (l64 s') k = spF s' r i k := by
  unfold putN spF
  by_cases e : k < 25
  · rw [if_pos ⟨by omega, by omega⟩, if_pos e]; rfl
  · rw [if_neg (by omega), if_neg e, if_neg e]

set_option maxHeartbeats 800000 in
theorem pturn_any (y : Nat) (t : TypeId) (s : Nat → BitVec 64) (r p : Nat) (w : World) (hL : Laid3 w) (hrow : w.rowIs y t 27 (spF s r p)) :
    Calls Tryd.prog 34 #[.pointer (some ⟨y, 0, none⟩)] w fun e w' => e = .returned (.tuple #[]) ∧ w'.rowIs y t 27 (spF (keccak s) r 0) ∧ w.grownBy w' (some y) := by
  have hyl := hrow.lt
  go_enter Tryd.func34, Tryd.ntmps34
  go_wp2_with (first
    | (refine wpList_load_arr rfl 34 (.tmp 5) rfl 25 arr25 hrow rfl (by omega) ?_; rw [spF_lanes])
    | (go_at_call 18; refine (permute_any _ _ hL).mono ?_; rintro e w2 ⟨rfl, hb2⟩
       have hrow2 := hrow.of_block (hb2.block _ hyl)
       clear hrow hL)
    | (refine wpList_store_arr rfl 34 (.tmp 9) (.tmp 7) rfl 25 arr25 hrow2 rfl rfl (by omega) (fun _ _ => rfl) ?_; intro w3 hr3 hg3 hs3
       replace hr3 := hr3.congr (fun k hk => spF_put s (keccak s) r p k hk)
       have hg := grownBy_trans (gb_new (grownBy_refl w (some y)) hb2) hg3
       have hcell := hr3.cell (i := 26) (by omega)
       have hfr := hr3.frozen 26
       clear hb2 hrow2 hg3 hs3))
  go_end0
  exact ⟨rfl, (hr3.set 26 _).congr fun k hk => spF_set _ _ _ 0 k hk, gb_setb hg _⟩

theorem takeS_snoc (r : Nat) (p : (Nat → BitVec 64) × Nat) (l : List UInt8) (j : Nat) (h : j < l.length) :
    takeS r p (l.take (j + 1)) = if (takeS r p (l.take j)).2 + 1 = r then (keccak (layB (takeS r p (l.take j)).1 (takeS r p (l.take j)).2 (l[j]).toNat), 0) else (layB (takeS r p (l.take j)).1 (takeS r p (l.take j)).2 (l[j]).toNat, (takeS r p (l.take j)).2 + 1) := by
  rw [List.take_succ_eq_append_getElem h, takeS_append]
  rfl
theorem play_cell (y : Nat) (t : TypeId) (s : Nat → BitVec 64) (r p : Nat) (i x : Int) (w : World) (hrow : w.rowIs y t 27 (spF s r p)) (hi0 : 0 ≤ i) (hi : i < 200) (hx0 : 0 ≤ x) (hx : x < 256) :
    Calls Tryd.prog 33 #[.pointer (some ⟨y, 0, none⟩), .int .i64 i, .int .u8 x] w fun e w' => e = .returned (.tuple #[]) ∧ w'.rowIs y t 27 (spF (layB s i.toNat x.toNat) r p) ∧ w.grownBy w' (some y) := by
  have h := play_any y t s r p i.toNat x.toNat w hrow (by omega) (by omega)
  rwa [show (i.toNat : Int) = i by omega, show (x.toNat : Int) = x by omega] at h

set_option maxHeartbeats 1600000 in
theorem ptake_any (y : Nat) (t : TypeId) (s : Nat → BitVec 64) (r p : Nat) (vb : Value) (l : List UInt8) (w : World) (hL : Laid3 w) (hrow : w.rowIs y t 27 (spF s r p)) (hB : Bs w vb l) (hA : Away vb y) (hy : 3 ≤ y) (hp : p < r) (hr : r < 200) :
    Calls Tryd.prog 32 #[.pointer (some ⟨y, 0, none⟩), vb] w fun e w' => e = .returned (.tuple #[]) ∧ w'.rowIs y t 27 (spF (takeS r (s, p) l).1 r (takeS r (s, p) l).2) ∧ w.grownBy w' (some y) := by
  obtain ⟨a, n, cap, rfl, hn, hc1, hc2, hB0⟩ := hB.shape
  have HB := Lib.hid hB0
  have HN := Lib.hid hn
  have hT := Lib.hid hL
  clear hB hB0 hn hL
  go_enter Tryd.func32, Tryd.ntmps32
  go_wp2
  go_loopw [8] (fun i wr => ∃ j : Nat, j ≤ n ∧ i = .int .i64 j ∧ wr.rowIs y t 27 (spF (takeS r (s, p) (l.take j)).1 r (takeS r (s, p) (l.take j)).2) ∧ w.grownBy wr (some y)) (fun i _ => n - (intOf i).toNat)
  case atStart => exact ⟨0, Nat.zero_le _, rfl, hrow, grownBy_refl _ _⟩
  case round =>
    clear hrow
    obtain ⟨j, hj, rfl, hrw, hg⟩ := hrel
    by_cases hlt : j < n
    · have hl : j < l.length := by rw [HN.out]; exact hlt
      have hsn := takeS_snoc r (s, p) l j hl
      have hp2 := takeS_lt r (by omega) (l.take j) (s, p) hp
      generalize takeS r (s, p) (l.take j) = q at *
      obtain ⟨s2, p2⟩ := q
      simp only at hsn hp2 hrw
      have HS := Lib.hid hsn
      clear hsn
      obtain ⟨b, off, cap', he, _, _, hbl, hc⟩ := HB.out.open_n HN.out (by omega)
      cases he
      have hBr : Bs wr _ l := gb_bs HB.out hg hA
      obtain ⟨b', off', cap', he, _, _, hbl, hc⟩ := hBr.open_n HN.out (by omega)
      cases he
      have hcj := hc j hl
      clear hc hBr
      have hat := hrw.cell (i := 26) (by omega)
      rw [spF_at] at hat
      have hx := UInt8.toNat_lt l[j]
      generalize l[j] = x at *
      clear hbl
      by_cases e : p2 + 1 = r
      · have HS2 : Hid (takeS r (s, p) (l.take (j + 1)) = (keccak (layB s2 p2 x.toNat), 0)) := by have := HS.out; rw [if_pos e] at this; exact this
        have hte : (((p2 : Int) + 1) == (r : Int)) = true := by simp; omega
        clear HS
        go_wp2_with (first
          | (go_at_call 33; refine (play_cell y t s2 r p2 _ _ _ hrw (by omega) (by omega) (by omega) (by omega)).mono ?_; rintro e w3 ⟨rfl, hr3, hg3⟩
             replace hg := grownBy_trans hg hg3
             replace hat := hr3.cell (i := 26) (by omega)
             have hfr := hr3.frozen 26
             have hrt := hr3.cell (i := 25) (by omega)
             rw [spF_at] at hat
             rw [spF_rate] at hrt
             clear hg3 hcj hrw))
        go_quiet (fail)
        have hr4 : ((w3.setCell ⟨y, 26, none⟩ (.int .i64 ((p2 : Int) + 1))).drewN nq).rowIs y t 27 (spF (layB s2 p2 x.toNat) r (p2 + 1)) := (hr3.set 26 _).congr fun k hk => by
          have := spF_set (layB s2 p2 x.toNat) r p2 (p2 + 1) k hk
          simpa using this
        replace hg := gb_drew (gb_setb (i := 26) hg (.int .i64 ((p2 : Int) + 1))) nq
        have hT4 := hT.out.grown hg hy
        go_wp2_with (first
          | (go_at_call 34; refine (pturn_any y t _ r _ _ hT4 hr4).mono ?_; rintro e w5 ⟨rfl, hr5, hg5⟩))
        go_roundw
        case rel => exact ⟨j + 1, by omega, by go_num, by rw [HS2.out]; exact hr5, grownBy_trans hg hg5⟩
        case measure => simp [intOf]; omega
      · have HS2 : Hid (takeS r (s, p) (l.take (j + 1)) = (layB s2 p2 x.toNat, p2 + 1)) := by have := HS.out; rw [if_neg e] at this; exact this
        have hte : (((p2 : Int) + 1) == (r : Int)) = false := by simp; omega
        clear HS
        go_wp2_with (first
          | (go_at_call 33; refine (play_cell y t s2 r p2 _ _ _ hrw (by omega) (by omega) (by omega) (by omega)).mono ?_; rintro e w3 ⟨rfl, hr3, hg3⟩
             replace hg := grownBy_trans hg hg3
             replace hat := hr3.cell (i := 26) (by omega)
             have hfr := hr3.frozen 26
             have hrt := hr3.cell (i := 25) (by omega)
             rw [spF_at] at hat
             rw [spF_rate] at hrt
             clear hg3 hcj hrw))
        go_quiet (fail)
        have hr4 : ((w3.setCell ⟨y, 26, none⟩ (.int .i64 ((p2 : Int) + 1))).drewN nq).rowIs y t 27 (spF (layB s2 p2 x.toNat) r (p2 + 1)) := (hr3.set 26 _).congr fun k hk => by
          have := spF_set (layB s2 p2 x.toNat) r p2 (p2 + 1) k hk
          simpa using this
        replace hg := gb_drew (gb_setb (i := 26) hg (.int .i64 ((p2 : Int) + 1))) nq
        go_wp2
        go_roundw
        case rel => exact ⟨j + 1, by omega, by go_num, by rw [HS2.out]; exact hr4, hg⟩
        case measure => simp [intOf]; omega
    · obtain rfl : j = n := by omega
      have hall : l.take j = l := List.take_of_length_le (by rw [HN.out]; exact Nat.le_refl _)
      rw [hall] at hrw
      go_wp2
      go_end0
      exact ⟨rfl, hrw, hg⟩
end Go.Proofs.YtmfogngfdgpahaaDoor
