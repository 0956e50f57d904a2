/- Hash256: Add. -/
import Derived.Test.YtladojcbbhphfaaCut
namespace Go.Proofs.Ytladojcbbhphfaa
open Go.RowKit Go.Deep

/-- At block y lies a Hash256 to which the bytes m came. -/
def HashAt (w : World) (y : Nat) (m : List UInt8) : Prop := ∃ s blk, w.rowIs y 62 73 (hashF s blk m.length) ∧ (m ≠ [] → Dig k256 m s blk)
theorem HashAt.of_block {w w' : World} {y : Nat} {m : List UInt8} (h : HashAt w y m) (e : w'.heap[y]? = w.heap[y]?) : HashAt w' y m := by
  obtain ⟨s, blk, h1, h2⟩ := h
  exact ⟨s, blk, h1.of_block e, h2⟩
theorem HashAt.lt {w : World} {y : Nat} {m : List UInt8} (h : HashAt w y m) : y < w.heap.size := by
  obtain ⟨s, blk, h1, h2⟩ := h
  exact h1.lt
theorem putN_first (s : S8 32) (blk : Nat → UInt8) (z : Nat) (i : Nat) (_hi : i < 73) : putN (hashF s blk z) 0 8 (w32 I32) i = hashF k256.first blk z i := by
  unfold putN hashF
  by_cases e : i < 8
  · rw [if_pos ⟨by omega, by omega⟩, if_pos e]
    show w32 I32 (i - 0) = Value.int .u32 (((S8.of I32).at i).toNat : Int)
    rw [S8.at_of _ _ e]; rfl
  · rw [if_neg (by omega), if_neg e, if_neg e]
theorem dig_nil (blk : Nat → UInt8) : Dig k256 [] k256.first blk := ⟨rfl, fun i hi => by simp at hi⟩
theorem hash_size (s : S8 32) (blk : Nat → UInt8) (z z' : Nat) (i : Nat) (hi : i < 73) : (if i = 72 then (.int .u64 (z' : Int) : Value) else hashF s blk z i) = hashF s blk z' i := by
  unfold hashF
  by_cases e : i = 72
  · subst e; rfl
  · rw [if_neg e]
    by_cases e1 : i < 8
    · rw [if_pos e1, if_pos e1]
    · rw [if_neg e1, if_neg e1, if_pos (by omega), if_pos (by omega)]

set_option maxHeartbeats 4000000 in
theorem hadd_any (y : Nat) (m l : List UInt8) (vb : Value) (w : World) (hH : HashAt w y m) (hB : Bs w vb l) (hy : Away vb y) (hlen : m.length + l.length < 2 ^ 60) :
    Calls Try.prog 24 #[.pointer (some ⟨y, 0, none⟩), vb] w fun e w' => e = .returned (.tuple #[]) ∧ HashAt w' y (m ++ l) ∧ w.grownBy w' (some y) := by
  obtain ⟨s, blk, hrow, hD⟩ := hH
  have hyl := hrow.lt
  have hbox : (w.alloc (.cells #[.pointer (some ⟨y, 0, none⟩)] 43)).cell? ⟨w.heap.size, 0, none⟩ = some (.pointer (some ⟨y, 0, none⟩)) := by simp
  have hlt : w.heap.size < (w.alloc (.cells #[.pointer (some ⟨y, 0, none⟩)] 43)).heap.size := by simp
  have hg : w.grownBy (w.alloc (.cells #[.pointer (some ⟨y, 0, none⟩)] 43)) (some y) := World.grownBy_alloc w _ _
  have hax : Away vb w.heap.size := hB.away (Nat.le_refl _)
  have hne : w.heap.size ≠ y := by omega
  have HB := Lib.hid (hB.below ((Below.refl _ _).alloc (Nat.le_refl _) (.cells #[.pointer (some ⟨y, 0, none⟩)] 43)) (Nat.le_refl _))
  clear hB
  replace hrow := hrow.alloc (.cells #[.pointer (some ⟨y, 0, none⟩)] 43)
  go_enter Try.func24, Try.ntmps24
  have hsz : (w.alloc (.cells #[.pointer (some ⟨y, 0, none⟩)] 43)).cell? ⟨y, 72, none⟩ = some (.int .u64 (m.length : Int)) := hrow.cell (i := 72) (by omega)
  by_cases hm : m.length = 0
  focus
    obtain rfl : m = [] := List.eq_nil_of_length_eq_zero hm
    have hmI : (([] : List UInt8).length : Int) = 0 := rfl
    go_wp2
    generalize w.alloc (.cells #[.pointer (some ⟨y, 0, none⟩)] 43) = w1 at *
    generalize hxe : w.heap.size = x at *
    have hx0 : w.heap.size ≤ x := by omega
    replace hrow := hrow.drew
    replace hbox : w1.drew.cell? ⟨x, 0, none⟩ = some (.pointer (some ⟨y, 0, none⟩)) := hbox
    replace hlt : x < w1.drew.heap.size := hlt
    replace hg := Tch.grown hg (Tch.refl x y w1).drew hx0
    replace HB := Lib.hid (HB.out.touched (Tch.refl x y w1).drew hax hy)
    clear hsz
    refine wp_region_lins [(0, some [4]), (1, none), (2, some []), (3, some [4]), (4, none)] (fun c w' => c = 4 → w'.cell? ⟨x, 0, none⟩ = some (.pointer (some ⟨y, 0, none⟩))) (by kernel_rfl) (by kernel_rfl) (by decide) (by kernel_rfl) (fun d _ _ _ _ h => by cases d <;> exact h) (fun c hc _ => hbox) ?_
    refine lins_read 11 (Op.load 43 (Operand.tmp 2)) 43 (.pointer (some ⟨y, 0, none⟩)) rfl rfl rfl rfl rfl (fun w0 hw0 => by exact exec_load_cell _ _ _ _ rfl (by kernel_rfl) (hw0 4 (by simp) rfl)) ?_
    simp only [Act.put, List.setIfInBounds_toArray, List.set_cons_zero, List.set_cons_succ]
    refine lins_fn (some 12) 32 #[] #[] _ (start256_any _) rfl rfl rfl rfl Try.func32 (by kernel_rfl) (by kernel_rfl) (by go_simp) ?_
    rintro e w2 ⟨rfl, hb2⟩
    replace hbox := (hb2.cell (p := ⟨x, 0, none⟩) hlt).trans hbox
    replace hrow := World.rowIs.of_block hrow (hb2.block _ hrow.lt)
    replace hlt := Nat.lt_of_lt_of_le hlt hb2.size
    replace hg := Tch.grown hg (Tch.of_below hb2 (x := x) (y := y)) hx0
    replace HB := Lib.hid (HB.out.touched (Tch.of_below hb2 (x := x) (y := y)) hax hy)
    refine ⟨_, rfl, fun c w' => c = 4 → w'.cell? ⟨x, 0, none⟩ = some (.pointer (some ⟨y, 0, none⟩)), fun c hc => ⟨fun _ => hbox, fun w3 h3 => h3⟩, ?_⟩
    simp only [Act.put, List.setIfInBounds_toArray, List.set_cons_zero, List.set_cons_succ]
    refine lins_read 13 (Op.nilCheck (Operand.tmp 11)) 0 _ rfl rfl rfl rfl rfl (fun w0 hw0 => by unfold mkOp; go_simp; all_goals (with_reducible rfl)) ?_
    simp only [Act.put, List.setIfInBounds_toArray, List.set_cons_zero, List.set_cons_succ]
    refine lins_read 14 (Op.fieldAddr 62 (Operand.tmp 13) 0) 0 _ rfl rfl rfl rfl rfl (fun w0 hw0 => by unfold mkOp; go_simp; all_goals (with_reducible rfl)) ?_
    simp only [Act.put, List.setIfInBounds_toArray, List.set_cons_zero, List.set_cons_succ]
    refine lins_store_arr 54 (.tmp 14) (.tmp 12) rfl rfl rfl rfl hrow rfl rfl arr8_32 (by omega) (fun _ _ => rfl) ?_
    intro w3 hr3 hg3 hs3
    refine ⟨fun _ _ => True, fun c hc => (by cases hc), ?_⟩
    try simp only [Act.put, List.setIfInBounds_toArray, List.set_cons_zero, List.set_cons_succ]
    refine lins_end ?_
    have hrow4 : w3.rowIs y 62 73 (hashF k256.first blk ([] : List UInt8).length) := hr3.congr fun i hi => putN_first s blk _ i hi
    have hD4 : Dig k256 [] k256.first blk := dig_nil blk
    replace hbox : w3.cell? ⟨x, 0, none⟩ = some (.pointer (some ⟨y, 0, none⟩)) := (World.cell?_of_block (w := w2) (hg3.block _ hlt (fun e => hne (Option.some.inj e)))).trans hbox
    replace hlt : x < w3.heap.size := by omega
    replace hg := Tch.grown hg (Tch.right (x := x) hg3) hx0
    have hB4 : Hid (Bs w3 vb l) := HB.out.touched (Tch.right (x := x) hg3) hax hy
    clear hr3 hg3 hb2 hrow HB hD
    go_wp2
    generalize w3 = w4 at *
    generalize k256.first = s4 at *
    generalize blk = blk4 at *
  rotate_left
  focus
    have hmI : ¬ (m.length : Int) = 0 := by omega
    have hD4 := hD (fun h => hm (by rw [h]; rfl))
    clear hD
    go_wp2
    generalize w.alloc (.cells #[.pointer (some ⟨y, 0, none⟩)] 43) = w4 at *
    generalize hxe : w.heap.size = x at *
    have hx0 : w.heap.size ≤ x := by omega
    have hrow4 := hrow
    have hB4 := HB
    clear hrow hsz HB
    generalize s = s4 at *
    generalize blk = blk4 at *
  rotate_left
  all_goals
    have hsz4 : w4.drew.cell? ⟨y, 72, none⟩ = some (.int .u64 (_ : Int)) := hrow4.cell (i := 72) (by omega)
    refine wp_region_lins [(0, some [14]), (1, some [14]), (2, some [14]), (3, some [14]), (4, some [11, 14]), (5, some [14]), (6, some [14]), (7, some [14]), (8, some [11, 14]), (9, some [11, 14]), (10, some [11, 14]), (11, none), (12, some []), (13, some [14]), (14, none)] (fun c w' => (c = 11 → w' = w4.drew) ∧ (c = 14 → w'.cell? ⟨x, 0, none⟩ = some (.pointer (some ⟨y, 0, none⟩)))) (by kernel_rfl) (by kernel_rfl) (by decide) (by kernel_rfl) (fun d _ _ _ _ h => by cases d <;> exact h) (fun c hc => ⟨fun _ => rfl, fun _ => hbox⟩) ?_
    refine lins_read 15 (Op.load 43 (Operand.tmp 2)) 43 (.pointer (some ⟨y, 0, none⟩)) rfl rfl rfl rfl rfl (fun w0 hw0 => by exact exec_load_cell _ _ _ _ rfl (by kernel_rfl) ((hw0 14 (by simp)).2 rfl)) ?_
    simp only [Act.put, List.setIfInBounds_toArray, List.set_cons_zero, List.set_cons_succ]
    refine lins_read 16 (Op.load 43 (Operand.tmp 2)) 43 (.pointer (some ⟨y, 0, none⟩)) rfl rfl rfl rfl rfl (fun w0 hw0 => by exact exec_load_cell _ _ _ _ rfl (by kernel_rfl) ((hw0 14 (by simp)).2 rfl)) ?_
    simp only [Act.put, List.setIfInBounds_toArray, List.set_cons_zero, List.set_cons_succ]
    refine lins_read 17 (Op.nilCheck (Operand.tmp 16)) 0 _ rfl rfl rfl rfl rfl (fun w0 hw0 => by unfold mkOp; go_simp; all_goals (with_reducible rfl)) ?_
    simp only [Act.put, List.setIfInBounds_toArray, List.set_cons_zero, List.set_cons_succ]
    refine lins_read 18 (Op.fieldAddr 62 (Operand.tmp 17) 1) 0 _ rfl rfl rfl rfl rfl (fun w0 hw0 => by unfold mkOp; go_simp; all_goals (with_reducible rfl)) ?_
    simp only [Act.put, List.setIfInBounds_toArray, List.set_cons_zero, List.set_cons_succ]
    refine lins_read 19 (Op.slice 40 (Operand.tmp 18) none none none) 22 (.slice (some ⟨y, 8, none⟩) 64 64) rfl rfl rfl rfl rfl (fun w0 hw0 => by exact exec_sliceAll _ _ _ _ _ Try.underlying40 (by kernel_rfl) rfl (by omega)) ?_
    simp only [Act.put, List.setIfInBounds_toArray, List.set_cons_zero, List.set_cons_succ]
    refine lins_read 20 (Op.load 43 (Operand.tmp 2)) 43 (.pointer (some ⟨y, 0, none⟩)) rfl rfl rfl rfl rfl (fun w0 hw0 => by exact exec_load_cell _ _ _ _ rfl (by kernel_rfl) ((hw0 14 (by simp)).2 rfl)) ?_
    simp only [Act.put, List.setIfInBounds_toArray, List.set_cons_zero, List.set_cons_succ]
    refine lins_read 21 (Op.nilCheck (Operand.tmp 20)) 0 _ rfl rfl rfl rfl rfl (fun w0 hw0 => by unfold mkOp; go_simp; all_goals (with_reducible rfl)) ?_
    simp only [Act.put, List.setIfInBounds_toArray, List.set_cons_zero, List.set_cons_succ]
    refine lins_read 22 (Op.fieldAddr 62 (Operand.tmp 21) 2) 0 _ rfl rfl rfl rfl rfl (fun w0 hw0 => by unfold mkOp; go_simp; all_goals (with_reducible rfl)) ?_
    simp only [Act.put, List.setIfInBounds_toArray, List.set_cons_zero, List.set_cons_succ]
    refine lins_read 23 (Op.load 48 (Operand.tmp 22)) 48 _ rfl rfl rfl rfl rfl (fun w0 hw0 => by obtain rfl := (hw0 11 (by simp)).1 rfl; exact exec_load_cell _ _ _ _ rfl (by kernel_rfl) hsz4) ?_
    simp only [Act.put, List.setIfInBounds_toArray, List.set_cons_zero, List.set_cons_succ]
    refine lins_read 24 (Op.move (Operand.tmp 1)) 22 _ rfl rfl rfl rfl rfl (fun w0 hw0 => by unfold mkOp; go_simp; all_goals (with_reducible rfl)) ?_
    simp only [Act.put, List.setIfInBounds_toArray, List.set_cons_zero, List.set_cons_succ]
    refine lins_read 25 (Op.makeFunc (Fn.func 34) #[] #[Operand.tmp 2]) 1 (.func (.func 34) #[] #[.pointer (some ⟨x, 0, none⟩)]) rfl rfl rfl rfl rfl (fun w0 hw0 => by exact exec_makeFunc1 _ _ _ _ rfl) ?_
    simp only [Act.put, List.setIfInBounds_toArray, List.set_cons_zero, List.set_cons_succ]
    refine lins_fn (some 26) 33 #[Operand.tmp 19, Operand.tmp 23, Operand.tmp 24, Operand.tmp 25] #[22, 48, 22, 1] _ (cut256_any x y _ _ _ _ l vb _ ⟨hbox, hlt, hne, hrow4.drew⟩ hD4 (hB4.out.touched (Tch.refl x y w4).drew hax hy) hax hy (by simpa using hlen)) rfl rfl rfl rfl Try.func33 (by kernel_rfl) (by kernel_rfl) (by go_simp) ?_
    rintro e w5 ⟨rfl, s5, blk5, hM5, hD5, ht5⟩
    refine ⟨_, rfl, fun c w' => c = 14 → w'.cell? ⟨x, 0, none⟩ = some (.pointer (some ⟨y, 0, none⟩)), fun c hc => ⟨fun _ => hM5.box, fun w6 h6 => ⟨fun h9 => by subst h9; cases hc <;> contradiction, h6⟩⟩, ?_⟩
    simp only [Act.put, List.setIfInBounds_toArray, List.set_cons_zero, List.set_cons_succ]
    refine lins_read 27 (Op.nilCheck (Operand.tmp 15)) 0 _ rfl rfl rfl rfl rfl (fun w0 hw0 => by unfold mkOp; go_simp; all_goals (with_reducible rfl)) ?_
    simp only [Act.put, List.setIfInBounds_toArray, List.set_cons_zero, List.set_cons_succ]
    refine lins_read 28 (Op.fieldAddr 62 (Operand.tmp 27) 2) 0 _ rfl rfl rfl rfl rfl (fun w0 hw0 => by unfold mkOp; go_simp; all_goals (with_reducible rfl)) ?_
    simp only [Act.put, List.setIfInBounds_toArray, List.set_cons_zero, List.set_cons_succ]
    refine lins_store_cell 48 (.tmp 28) (.tmp 26) rfl rfl rfl rfl hM5.row rfl rfl (by kernel_rfl) rfl rfl (by omega) ?_
    refine ⟨fun _ _ => True, fun c hc => (by cases hc), ?_⟩
    try simp only [Act.put, List.setIfInBounds_toArray, List.set_cons_zero, List.set_cons_succ]
    refine lins_end ?_
    go_wp2
    go_end0
    refine ⟨rfl, ⟨s5, blk5, (hM5.row.set 72 _).congr fun i hi => ?_, fun _ => hD5⟩, ?_⟩
    · rw [List.length_append]; exact hash_size s5 blk5 _ _ i hi
    · exact Tch.grown (Tch.grown hg ((Tch.refl x y w4).drew.trans ht5) hx0) (Tch.right (grownBy_set w5 y 72 _)) hx0
end Go.Proofs.Ytladojcbbhphfaa
