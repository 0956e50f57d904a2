/- Keccak's steps: rho, pi, chi; the program's tables. -/
import Derived.Test.YtmfogngfdgpahaaDoorKecA
namespace Go.Proofs.YtmfogngfdgpahaaDoor
open Go.RowKit Go.Deep

def i64f (f : Nat → Nat) : Nat → Value := fun i => .int .i64 ((f i : Nat) : Int)
/-- The program's three tables lie where they lie, and hold what its text lays. -/
structure Laid3 (w : World) : Prop where
  turns : ∀ i, i < 25 → w.cell? ⟨1, i, none⟩ = some (i64f turnsN i)
  sources : ∀ i, i < 25 → w.cell? ⟨2, i, none⟩ = some (i64f srcN i)
  marks : ∀ i, i < 24 → w.cell? ⟨0, i, none⟩ = some (l64 markB i)
  size : 3 ≤ w.heap.size
theorem Laid3.same {w w' : World} (h : Laid3 w) (h0 : ∀ g, g < 3 → w'.heap[g]? = w.heap[g]?) (hs : w.heap.size ≤ w'.heap.size) : Laid3 w' :=
  ⟨fun i hi => (World.cell?_of_block (h0 _ (by show 1 < 3; omega))).trans (h.turns i hi), fun i hi => (World.cell?_of_block (h0 _ (by show 2 < 3; omega))).trans (h.sources i hi),
    fun i hi => (World.cell?_of_block (h0 _ (by show 0 < 3; omega))).trans (h.marks i hi), Nat.le_trans h.size hs⟩
theorem Laid3.below {w w' : World} {B : Nat} (h : Laid3 w) (hb : Below B w w') (hB : 3 ≤ B) : Laid3 w' := h.same (fun g hg => hb.block g (by omega)) hb.size
theorem Laid3.grown {w w' : World} {y : Nat} (h : Laid3 w) (hg : w.grownBy w' (some y)) (hy : 3 ≤ y) : Laid3 w' :=
  h.same (fun g hg' => hg.block g (by have := h.size; omega) (fun e => by have := Option.some.inj e; omega)) hg.size
theorem Laid3.alloc {w : World} (h : Laid3 w) (o : Obj) : Laid3 (w.alloc o) := h.below ((Below.refl _ _).alloc (Nat.le_refl _) o) h.size

section
variable {P : Program}
theorem run_load_cells {w : World} {b off k : Nat} {ty : TypeId} {f : Nat → Value} (hc : ∀ j, j < k → w.cell? ⟨b, off + j, none⟩ = some (f j)) (ht : IsArr P ty k) :
    (loadVar ty ⟨b, off, none⟩).run P w = .ok (.agg (arrOf k f)) w := by
  obtain ⟨hu, hi⟩ := ht
  have hl : (loadCells ⟨b, off, none⟩ ((List.range k).map f).length).run P w = .ok ((List.range k).map f).toArray w :=
    run_loadCells_list (P := P) w ⟨b, off, none⟩ _ (fun j v hv => by
      obtain ⟨hj, rfl⟩ := List.getElem?_eq_some_iff.1 hv
      have hj' : j < k := by simpa using hj
      rw [add_eq, hc j hj']
      simp)
  cases hq : P.info? ty with
  | none => simp [hq] at hi
  | some i =>
    have hs : i.size = k := by simpa [hq] using hi
    cases hd : P.underlying ty with
    | none => simp [hd] at hu
    | some d =>
      have hagg : (isAgg ty).run P w = .ok true w := by
        unfold isAgg
        rw [Sem.run_bind, run_underlying hd w]
        simp [hd] at hu
        cases d <;> simp_all
      simp only [List.length_map, List.length_range] at hl
      simp [loadVar, Sem.run_bind, hagg, sizeOf, typeInfo, hq, hs, hl, arrOf]
variable {ops : Array Oper} {rest : List Oper} {o : Oper} {a : Act} {w : World} {Q : Exit → Act → World → Prop}
/-- A whole array is loaded of which the cells are known. -/
theorem wpList_load_cells (hgd : o.guard = none) (ty : TypeId) (x : Operand) (ho : o.op = .load ty x) (k : Nat) (ht : IsArr P ty k) {b off : Nat} {f : Nat → Value}
    (hc : ∀ j, j < k → w.cell? ⟨b, off + j, none⟩ = some (f j)) (hx : a.eval x = .pointer (some ⟨b, off, none⟩)) (h : wpList P ops Q rest (a.put o.dst (.agg (arrOf k f))) w) : wpList P ops Q (o :: rest) a w :=
  wpList_plain hgd fun _ hK => by
    unfold Oper.wp execOp
    simp only [ho, hx, Instr.loadAt, Instr.sureAddr, Sem.run_bind, Sem.run_pure, Result.andThen_ok, run_load_cells hc ht]
    exact hK _ _ h
end

theorem arr25i : IsArr Tryd.prog 67 25 := ⟨by kernel_rfl, by kernel_rfl⟩
theorem arr24 : IsArr Tryd.prog 49 24 := ⟨by kernel_rfl, by kernel_rfl⟩
theorem arr25 : IsArr Tryd.prog 34 25 := ⟨by kernel_rfl, by kernel_rfl⟩
theorem arrState : IsArr Tryd.prog 48 25 := ⟨by kernel_rfl, by kernel_rfl⟩

def rhoTo (s : Nat → BitVec 64) (j i : Nat) : BitVec 64 := if i < j then rhoS s i else s i
set_option maxHeartbeats 800000 in
theorem rho_any (y : Nat) (s : Nat → BitVec 64) (w : World) (hL : Laid3 w) (hrow : w.rowIs y 48 25 (l64 s)) (hy : 3 ≤ y) :
    Calls Tryd.prog 29 #[.pointer (some ⟨y, 0, none⟩)] w fun e w' => e = .returned (.tuple #[]) ∧ w'.rowIs y 48 25 (l64 (rhoS s)) ∧ w.grownBy w' (some y) := by
  have hT := Lib.hid (hL.turns)
  clear hL
  go_enter Tryd.func29, Tryd.ntmps29
  go_wp2_with (refine wpList_load_cells rfl 67 _ rfl 25 arr25i (b := 1) (off := 0) (f := i64f turnsN) (fun j hj => by rw [Nat.zero_add]; exact hT.out j hj) rfl ?_)
  go_loopw [5] (fun i wr => ∃ j : Nat, j ≤ 25 ∧ i = .int .i64 j ∧ wr.rowIs y 48 25 (l64 (rhoTo s j)) ∧ w.grownBy wr (some y)) (fun i _ => 25 - (intOf i).toNat)
  case atStart => exact ⟨0, Nat.zero_le _, rfl, hrow.congr fun i _ => by unfold l64 rhoTo; rw [if_neg (by omega)], grownBy_refl _ _⟩
  case round =>
    obtain ⟨j, hj, rfl, hr, hg⟩ := hrel
    clear hrow hT
    by_cases hlt : j < 25
    · have c0 := hr.cell (i := j) (by omega)
      have hfr := hr.frozen j
      unfold l64 rhoTo at c0
      rw [if_neg (by omega)] at c0
      have hv : i64f turnsN j = .int .i64 ((turnsN j : Nat) : Int) := rfl
      have hn := turnsN_lt j hlt
      go_wp2_with (refine wpList_index_arr rfl 67 3 (.tmp 4) (.tmp 5) rfl 25 Tryd.underlying67 _ Tryd.underlying3 rfl (by kernel_rfl) rfl rfl hlt ?_)
      go_still_tail 11, (by kernel_rfl)
      still_call (rol_lit _ _ _ (by omega) (by omega))
      repeat still_step
      refine wpStill_nil ?_
      change wpList _ _ _ _ _ wr.drew
      go_wp2
      go_roundw
      case rel =>
        refine ⟨j + 1, by omega, by go_num, ((hr.set j _).drew).congr fun k hk => ?_, gb_drew (gb_setb hg _) 1⟩
        show (if k = j then _ else _) = _
        unfold l64 rhoTo
        by_cases e : k = j
        · subst e; rw [if_pos rfl, if_pos (by omega)]; rfl
        · rw [if_neg e]
          by_cases h2 : k < j
          · rw [if_pos h2, if_pos (by omega)]
          · rw [if_neg h2, if_neg (by omega)]
      case measure => simp [intOf]; omega
    · obtain rfl : j = 25 := by omega
      go_wp2
      go_end0
      exact ⟨rfl, hr.congr fun i hi => by unfold l64 rhoTo; rw [if_pos hi], hg⟩

theorem zeroState : (Tryd.prog.info? 48).map (fun i => i.zero) = some (some (.agg (arrOf 25 fun _ => .int .u64 0))) := by kernel_rfl
def piTo (s : Nat → BitVec 64) (j i : Nat) : BitVec 64 := if i < j then piS s i else s i
set_option maxHeartbeats 800000 in
theorem pi_any (y : Nat) (s : Nat → BitVec 64) (w : World) (hL : Laid3 w) (hrow : w.rowIs y 48 25 (l64 s)) (hy : 3 ≤ y) :
    Calls Tryd.prog 30 #[.pointer (some ⟨y, 0, none⟩)] w fun e w' => e = .returned (.tuple #[]) ∧ w'.rowIs y 48 25 (l64 (piS s)) ∧ w.grownBy w' (some y) := by
  have hyl := hrow.lt
  have hS := hL.size
  go_enter Tryd.func30, Tryd.ntmps30
  have hold := rowIs_arr w 25 (fun _ => .int .u64 0) 48
  go_wp2_with (first
    | refine wpList_load_arr rfl 48 (.tmp 6) rfl 25 arrState hrow rfl (by omega) ?_
    | refine wpList_alloc_arr rfl 48 rfl (arrOf 25 fun _ => .int .u64 0) zeroState ?_
    | (refine wpList_store_arr rfl 48 (.tmp 2) (.tmp 7) rfl 25 arrState hold rfl rfl (by omega) (fun _ _ => rfl) ?_; intro w2 hold2 hg2 hs2
       have hg := gb_row (gb_alloc (grownBy_refl w (some y)) (.cells (arrOf 25 fun _ => .int .u64 0) 48)) hg2 (Nat.le_refl _)
       have hrow2 := gb_rowIs (hrow.alloc (.cells (arrOf 25 fun _ => .int .u64 0) 48)) hg2 (by omega)
       have hT := Lib.hid (((hL.alloc (.cells (arrOf 25 fun _ => .int .u64 0) 48)).grown hg2 hS).sources)
       replace hold2 := hold2.congr (g := l64 s) (fun i hi => by unfold putN; rw [if_pos (by omega), Nat.sub_zero]; show l64 s (0 + i) = _; rw [Nat.zero_add])
       generalize hoe : w.heap.size = o at *
       have hyo : y ≠ o := by omega
       have hwo : w.heap.size ≤ o := by omega
       clear hrow hold hg2 hs2 hoe)
    | (refine wpList_load_cells rfl 67 _ rfl 25 arr25i (b := 2) (off := 0) (f := i64f srcN) (fun j hj => by rw [Nat.zero_add]; exact hT.out j hj) rfl ?_))
  clear hL
  go_loopw [9] (fun i wr => ∃ j : Nat, j ≤ 25 ∧ i = .int .i64 j ∧ wr.rowIs y 48 25 (l64 (piTo s j)) ∧ wr.rowIs o 48 25 (l64 s) ∧ w.grownBy wr (some y)) (fun i _ => 25 - (intOf i).toNat)
  case atStart => exact ⟨0, Nat.zero_le _, rfl, hrow2.congr fun i _ => by unfold l64 piTo; rw [if_neg (by omega)], hold2, hg⟩
  case round =>
    obtain ⟨j, hj, rfl, hr, ho, hgr⟩ := hrel
    clear hrow2 hold2 hg hT
    by_cases hlt : j < 25
    · have hsn := srcN_lt j hlt
      have c0 := ho.cell hsn
      have c1 := hr.cell (i := j) (by omega)
      have hfr := hr.frozen j
      unfold l64 at c0 c1
      have hv : i64f srcN j = .int .i64 ((srcN j : Nat) : Int) := rfl
      go_wp2_with (refine wpList_index_arr rfl 67 3 (.tmp 8) (.tmp 9) rfl 25 Tryd.underlying67 _ Tryd.underlying3 rfl (by kernel_rfl) rfl rfl hlt ?_)
      go_region
      go_wp2
      go_roundw
      case rel =>
        refine ⟨j + 1, by omega, by go_num, ((hr.set j _).drew).congr fun k hk => ?_, (ho.setOther (Ne.symm hyo) _).drew, gb_drew (gb_setb hgr _) 1⟩
        show (if k = j then _ else _) = _
        unfold l64 piTo
        by_cases e : k = j
        · subst e; rw [if_pos rfl, if_pos (by omega)]; rfl
        · rw [if_neg e]
          by_cases h2 : k < j
          · rw [if_pos h2, if_pos (by omega)]
          · rw [if_neg h2, if_neg (by omega)]
      case measure => simp [intOf]; omega
    · obtain rfl : j = 25 := by omega
      go_wp2
      go_end0
      exact ⟨rfl, hr.congr fun i hi => by unfold l64 piTo; rw [if_pos hi], hgr⟩

theorem chiS_at (s : Nat → BitVec 64) (k x : Nat) (hx : x < 5) : chiS s (5 * k + x) = s (5 * k + x) ^^^ (~~~s (5 * k + (x + 1) % 5) &&& s (5 * k + (x + 2) % 5)) := by
  unfold chiS
  rw [show (5 * k + x) / 5 * 5 + (5 * k + x + 1) % 5 = 5 * k + (x + 1) % 5 by omega, show (5 * k + x) / 5 * 5 + (5 * k + x + 2) % 5 = 5 * k + (x + 2) % 5 by omega]
theorem chi_val (a b c : BitVec 64) : bits .xor .u64 a.toNat (bits .and .u64 (bits .xor .u64 IntKind.u64.max b.toNat) c.toNat) = ((a ^^^ (~~~b &&& c)).toNat : Int) := by
  rw [not64, and64, xor64]
def chiTo (s : Nat → BitVec 64) (k i : Nat) : BitVec 64 := if i < 5 * k then chiS s i else s i
set_option maxHeartbeats 1600000 in
set_option maxRecDepth 100000 in
theorem chi_any (y : Nat) (s : Nat → BitVec 64) (w : World) (hrow : w.rowIs y 48 25 (l64 s)) :
    Calls Tryd.prog 31 #[.pointer (some ⟨y, 0, none⟩)] w fun e w' => e = .returned (.tuple #[]) ∧ w'.rowIs y 48 25 (l64 (chiS s)) ∧ w.grownBy w' (some y) := by
  go_enter Tryd.func31, Tryd.ntmps31
  go_wp2
  go_loopw [2] (fun i wr => ∃ k : Nat, k ≤ 5 ∧ i = .int .i64 ((5 * k : Nat) : Int) ∧ wr.rowIs y 48 25 (l64 (chiTo s k)) ∧ w.grownBy wr (some y)) (fun i _ => 25 - (intOf i).toNat)
  case atStart => exact ⟨0, Nat.zero_le _, rfl, hrow.congr fun i _ => by unfold l64 chiTo; rw [if_neg (by omega)], grownBy_refl _ _⟩
  case round =>
    obtain ⟨k, hk, rfl, hr, hg⟩ := hrel
    clear hrow
    by_cases hlt : k < 5
    · have d0 := hr.cell (i := 5 * k) (by omega)
      have d1 := hr.cell (i := 5 * k + 1) (by omega)
      have d2 := hr.cell (i := 5 * k + 2) (by omega)
      have d3 := hr.cell (i := 5 * k + 3) (by omega)
      have d4 := hr.cell (i := 5 * k + 4) (by omega)
      unfold l64 chiTo at d0 d1 d2 d3 d4
      rw [if_neg (by omega)] at d0 d1 d2 d3 d4
      have hfr := hr.frozen
      have q0 := chiS_at s k 0 (by omega)
      have q1 := chiS_at s k 1 (by omega)
      have q2 := chiS_at s k 2 (by omega)
      have q3 := chiS_at s k 3 (by omega)
      have q4 := chiS_at s k 4 (by omega)
      have H0 := Lib.hid q0
      have H1 := Lib.hid q1
      have H2 := Lib.hid q2
      have H3 := Lib.hid q3
      have H4 := Lib.hid q4
      clear q0 q1 q2 q3 q4
      have hs : IntKind.u64.signed = false := rfl
      have b2 : ((5 * k : Nat) : Int) < 25 := by omega
      have b3 : ((5 * k : Nat) : Int) + 4 < 25 := by omega
      generalize he : 5 * k = i at *
      have HE := Lib.hid he
      clear he
      go_wp2
      go_quiet (fail)
      go_wp2
      go_roundw
      case rel =>
        refine ⟨k + 1, by omega, by rw [← HE.out]; go_num, (((((((show (wr.drewN nq).rowIs y _ 25 _ from hr).set i _).set (i + 1) _).set (i + 2) _).set (i + 3) _).set (i + 4) _)).congr fun c hc => ?_, gb_setb (gb_setb (gb_setb (gb_setb (gb_setb (gb_drew hg nq) _) _) _) _) _⟩
        have he := HE.out
        show (if c = i + 4 then _ else if c = i + 3 then _ else if c = i + 2 then _ else if c = i + 1 then _ else if c = i then _ else _) = _
        unfold l64 chiTo
        by_cases e4 : c = i + 4
        · subst e4; rw [if_pos rfl, if_pos (show i + 4 < 5 * (k + 1) by omega), chi_val]; exact congrArg (fun x : BitVec 64 => Value.int .u64 (x.toNat : Int)) H4.out.symm
        · rw [if_neg e4]
          by_cases e3 : c = i + 3
          · subst e3; rw [if_pos rfl, if_pos (show i + 3 < 5 * (k + 1) by omega), chi_val]; exact congrArg (fun x : BitVec 64 => Value.int .u64 (x.toNat : Int)) H3.out.symm
          · rw [if_neg e3]
            by_cases e2 : c = i + 2
            · subst e2; rw [if_pos rfl, if_pos (show i + 2 < 5 * (k + 1) by omega), chi_val]; exact congrArg (fun x : BitVec 64 => Value.int .u64 (x.toNat : Int)) H2.out.symm
            · rw [if_neg e2]
              by_cases e1 : c = i + 1
              · subst e1; rw [if_pos rfl, if_pos (show i + 1 < 5 * (k + 1) by omega), chi_val]; exact congrArg (fun x : BitVec 64 => Value.int .u64 (x.toNat : Int)) H1.out.symm
              · rw [if_neg e1]
                by_cases e0 : c = i
                · rw [e0, if_pos rfl, if_pos (show i < 5 * (k + 1) by omega), chi_val]; exact congrArg (fun x : BitVec 64 => Value.int .u64 (x.toNat : Int)) H0.out.symm
                · rw [if_neg e0]
                  by_cases h2 : c < 5 * k
                  · rw [if_pos h2, if_pos (by omega)]
                  · rw [if_neg h2, if_neg (by omega)]
      case measure => simp [intOf]; omega
    · obtain rfl : k = 5 := by omega
      go_wp2
      go_end0
      exact ⟨rfl, hr.congr fun i hi => by unfold l64 chiTo; rw [if_pos (by omega)], hg⟩
end Go.Proofs.YtmfogngfdgpahaaDoor
