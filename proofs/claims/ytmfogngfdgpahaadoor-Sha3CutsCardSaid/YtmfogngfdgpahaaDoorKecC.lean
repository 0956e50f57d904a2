/- Keccak's permutation: the steps by their method expressions, the rounds. -/
import Derived.Test.YtmfogngfdgpahaaDoorKecB
namespace Go.Proofs.YtmfogngfdgpahaaDoor
open Go.RowKit Go.Deep

theorem wpList_store_arr' {P : Program} {ops : Array Oper} {rest : List Oper} {o : Oper} {a : Act} {w : World} {Q : Exit → Act → World → Prop} (hgd : o.guard = none) (ty : TypeId) (x y : Operand) (ho : o.op = .store ty x y) (k : Nat) (ht : IsArr P ty k) {b b' m off : Nat} {t : TypeId} {f g : Nat → Value}
    (hr : w.rowIs b t m f) (hx : a.eval x = .pointer (some ⟨b', off, none⟩)) (hb : b' = b) (hy : a.eval y = .agg (arrOf k g)) (hk : off + k ≤ m) (h1 : ∀ j, j < k → (g j).oneCell' = true)
    (h : ∀ w', w'.rowIs b t m (putN f off k g) → w.grownBy w' (some b) → w'.heap.size = w.heap.size → wpList P ops Q rest (a.put o.dst undef) w') : wpList P ops Q (o :: rest) a w := by
  subst hb
  exact wpList_store_arr hgd ty x y ho k ht hr hx hy hk h1 h

def stepF : Nat → Value
  | 0 => .func (.func 28) #[] #[]
  | 1 => .func (.func 29) #[] #[]
  | 2 => .func (.func 30) #[] #[]
  | _ => .func (.func 31) #[] #[]
theorem arr4f : IsArr Tryd.prog 51 4 := ⟨by kernel_rfl, by kernel_rfl⟩
theorem zero4f : (Tryd.prog.info? 51).map (fun i => i.zero) = some (some (.agg (arrOf 4 fun _ => .nilFunc))) := by kernel_rfl
set_option maxHeartbeats 400000 in
theorem steps_any (w : World) :
    Calls Tryd.prog 25 #[] w fun e w' => e = .returned (.agg (arrOf 4 stepF)) ∧ Below w.heap.size w w' := by
  go_enter Tryd.func25, Tryd.ntmps25
  have hrow := rowIs_arr w 4 (fun _ => .nilFunc) 51
  go_wp2_with (first
    | refine wpList_alloc_arr rfl 51 rfl (arrOf 4 fun _ => .nilFunc) zero4f ?_
    | refine wpList_build_arr rfl 51 _ rfl (arrOf 4 stepF) (by kernel_rfl) ?_
    | (refine wpList_store_arr rfl 51 (.tmp 0) (.tmp 1) rfl 4 arr4f hrow rfl rfl (by omega) (fun j _ => by unfold stepF; split <;> rfl) ?_; intro w2 hr2 hg2 hs2))
  refine ret_cell_arr rfl arr4f hr2 rfl (by omega) rfl ⟨?_, ?_⟩
  · refine congrArg (fun x => Ending.returned (.agg x)) (arrOf_congr fun i hi => ?_)
    unfold putN
    rw [if_pos (by omega), Nat.sub_zero, Nat.zero_add]
  · exact gb_below ((Below.refl _ _).alloc (Nat.le_refl _) _) hg2 (by simp) (Nat.le_refl _)

def partS (s : Nat → BitVec 64) : Nat → Nat → BitVec 64
  | 0 => s
  | 1 => thetaS s
  | 2 => rhoS (thetaS s)
  | 3 => piS (rhoS (thetaS s))
  | _ => chiS (piS (rhoS (thetaS s)))
/-- One step by its method expression. -/
theorem step_any (y j : Nat) (s : Nat → BitVec 64) (w : World) (hL : Laid3 w) (hrow : w.rowIs y 48 25 (l64 (partS s j))) (hy : 3 ≤ y) (hj : j < 4) :
    ∃ f, stepF j = .func (.func f) #[] #[] ∧ ∃ fn, Tryd.prog.funcs[f]? = some fn ∧ (fn.name == "runtime.NumGoroutine") = false ∧ fn.body.isNone = false ∧
      Calls Tryd.prog f #[.pointer (some ⟨y, 0, none⟩)] w fun e w' => e = .returned (.tuple #[]) ∧ w'.rowIs y 48 25 (l64 (partS s (j + 1))) ∧ w.grownBy w' (some y) := by
  match j, hj with
  | 0, _ => exact ⟨_, rfl, _, Tryd.func28, by kernel_rfl, by kernel_rfl, theta_any y _ s w hrow⟩
  | 1, _ => exact ⟨_, rfl, _, Tryd.func29, by kernel_rfl, by kernel_rfl, rho_any y _ w hL hrow hy⟩
  | 2, _ => exact ⟨_, rfl, _, Tryd.func30, by kernel_rfl, by kernel_rfl, pi_any y _ w hL hrow hy⟩
  | 3, _ => exact ⟨_, rfl, _, Tryd.func31, by kernel_rfl, by kernel_rfl, chi_any y _ w hrow⟩

theorem zero25 : (Tryd.prog.info? 34).map (fun i => i.zero) = some (some (.agg (arrOf 25 fun _ => .int .u64 0))) := by kernel_rfl
set_option maxHeartbeats 1600000 in
theorem permute_any (s : Nat → BitVec 64) (w : World) (hL : Laid3 w) :
    Calls Tryd.prog 18 #[.agg (arrOf 25 (l64 s))] w fun e w' => e = .returned (.agg (arrOf 25 (l64 (keccak s)))) ∧ Below w.heap.size w w' := by
  have hS := hL.size
  go_enter Tryd.func18, Tryd.ntmps18
  have hP := ((rowIs_arr w 25 (l64 s) 34).alloc (.cells (arrOf 25 fun _ => .int .u64 0) 34)).alloc (.cells (arrOf 25 fun _ => .int .u64 0) 48)
  have hR := (rowIs_arr (w.alloc (.cells (arrOf 25 (l64 s)) 34)) 25 (fun _ => .int .u64 0) 34).alloc (.cells (arrOf 25 fun _ => .int .u64 0) 48)
  have hY := rowIs_arr ((w.alloc (.cells (arrOf 25 (l64 s)) 34)).alloc (.cells (arrOf 25 fun _ => .int .u64 0) 34)) 25 (fun _ => .int .u64 0) 48
  have hP0 := (rowIs_arr w 25 (l64 s) 34).alloc (.cells (arrOf 25 fun _ => .int .u64 0) 34)
  have hb : Below w.heap.size w (((w.alloc (.cells (arrOf 25 (l64 s)) 34)).alloc (.cells (arrOf 25 fun _ => .int .u64 0) 34)).alloc (.cells (arrOf 25 fun _ => .int .u64 0) 48)) :=
    (((Below.refl _ _).alloc (Nat.le_refl _) _).alloc (by simp only [World.size_alloc]; omega) _).alloc (by simp only [World.size_alloc]; omega) _
  simp only [World.size_alloc] at hP hR hY hP0
  go_wp2_with (first
    | refine wpList_alloc_arr rfl 34 rfl (arrOf 25 fun _ => .int .u64 0) zero25 ?_
    | refine wpList_alloc_arr rfl 48 rfl (arrOf 25 fun _ => .int .u64 0) zeroState ?_
    | refine wpList_load_arr rfl 34 (.tmp 1) rfl 25 arr25 hP0 rfl (by omega) ?_
    | (refine wpList_store_arr' rfl 48 (.tmp 3) (.tmp 8) rfl 25 arrState hY rfl (by simp only [World.size_alloc]) rfl (by omega) (fun _ _ => rfl) ?_; intro w2 hY2 hg2 hs2
       replace hY2 := hY2.congr (g := l64 s) (fun i hi => by unfold putN; rw [if_pos (by omega), Nat.sub_zero]; show l64 s (0 + i) = _; rw [Nat.zero_add])
       have hR2 := gb_rowIs hR hg2 (by omega)
       have hb2 := gb_below hb hg2 (by simp only [World.size_alloc]; omega) (by omega)
       have hT2 := Lib.hid (hL.below hb2 hS)
       have hr2 : w.heap.size + 1 ≠ w.heap.size + 1 + 1 := by omega
       have hyw : w.heap.size ≤ w.heap.size + 1 + 1 := by omega
       have hy3 : 3 ≤ w.heap.size + 1 + 1 := by omega
       have hrw : w.heap.size ≤ w.heap.size + 1 := by omega
       clear hP hR hY hP0 hb hg2 hs2)
    | (refine wpList_load_cells rfl 49 _ rfl 24 arr24 (b := 0) (off := 0) (f := l64 markB) (fun j hj => by rw [Nat.zero_add]; exact hT2.out.marks j hj) rfl ?_))
  clear hL
  generalize hye : w.heap.size + 1 + 1 = y at *
  generalize hrbe : w.heap.size + 1 = rb at *
  clear hye hrbe
  go_loopw [10] (fun i wr => ∃ r : Nat, r ≤ 24 ∧ i = .int .i64 r ∧ wr.rowIs y 48 25 (l64 (roundsS s r)) ∧ wr.rowIs rb 34 25 (fun _ => .int .u64 0) ∧ Hid (Laid3 wr) ∧ Below w.heap.size w wr) (fun i _ => 24 - (intOf i).toNat)
  case atStart => exact ⟨0, Nat.zero_le _, rfl, hY2, hR2, hT2, hb2⟩
  case round =>
    obtain ⟨r, hr, rfl, hY, hR, hT, hb⟩ := hrel
    clear hY2 hR2 hT2 hb2
    by_cases hlt : r < 24
    · have hv : l64 markB r = .int .u64 ((markB r).toNat : Int) := rfl
      go_wp2_with (first
        | refine wpList_index_arr rfl 49 33 (.tmp 9) (.tmp 10) rfl 24 Tryd.underlying49 _ Tryd.underlying33 rfl (by kernel_rfl) rfl rfl hlt ?_
        | (go_at_call 25; refine (steps_any _).mono ?_; rintro e w3 ⟨rfl, hb3⟩
           replace hY := hY.of_block (hb3.block _ hY.lt)
           replace hR := hR.of_block (hb3.block _ hR.lt)
           replace hT := Lib.hid (hT.out.below hb3 hT.out.size)
           replace hb := hb.trans (hb3.mono hb.size)
           clear hb3))
      go_loopw [14] (fun i w4 => ∃ j : Int, 0 ≤ j ∧ j ≤ 4 ∧ i = .int .i64 j ∧ w4.rowIs y 48 25 (l64 (partS (roundsS s r) j.toNat)) ∧ w4.rowIs rb 34 25 (fun _ => .int .u64 0) ∧ Hid (Laid3 w4) ∧ Below w.heap.size w w4) (fun i _ => 4 - (intOf i).toNat)
      case atStart => exact ⟨0, by omega, by omega, rfl, hY, hR, hT, hb⟩
      case round =>
        obtain ⟨j, hj0, hj, rfl, hY4, hR4, hT4, hb4⟩ := hrel
        clear hY hR hT hb
        by_cases hlt4 : j < 4
        · have hjj : j = 0 ∨ j = 1 ∨ j = 2 ∨ j = 3 := by omega
          rcases hjj with rfl | rfl | rfl | rfl
          · have hv4 : stepF 0 = .func (.func 28) #[] #[] := rfl
            replace hY4 : wr.rowIs y 48 25 (l64 (roundsS s r)) := hY4
            go_wp2_with (first
              | refine wpList_index_arr rfl 51 50 (.tmp 13) (.tmp 14) rfl 4 Tryd.underlying51 _ Tryd.underlying50 rfl (by kernel_rfl) (f := stepF) (j := 0) rfl rfl (by omega) ?_
              | (go_at_call 28; refine (theta_any y _ _ _ hY4).mono ?_; rintro e w6 ⟨rfl, hY6, hg6⟩))
            go_roundw
            case rel => exact ⟨1, by omega, by omega, rfl, hY6, gb_rowIs hR4 hg6 hr2, Lib.hid (hT4.out.grown hg6 hy3), gb_below hb4 hg6 hb4.size hyw⟩
            case measure => simp [intOf]
          · have hv4 : stepF 1 = .func (.func 29) #[] #[] := rfl
            replace hY4 : wr.rowIs y 48 25 (l64 (thetaS (roundsS s r))) := hY4
            go_wp2_with (first
              | refine wpList_index_arr rfl 51 50 (.tmp 13) (.tmp 14) rfl 4 Tryd.underlying51 _ Tryd.underlying50 rfl (by kernel_rfl) (f := stepF) (j := 1) rfl rfl (by omega) ?_
              | (go_at_call 29; refine (rho_any y _ _ hT4.out hY4 hy3).mono ?_; rintro e w6 ⟨rfl, hY6, hg6⟩))
            go_roundw
            case rel => exact ⟨2, by omega, by omega, rfl, hY6, gb_rowIs hR4 hg6 hr2, Lib.hid (hT4.out.grown hg6 hy3), gb_below hb4 hg6 hb4.size hyw⟩
            case measure => simp [intOf]
          · have hv4 : stepF 2 = .func (.func 30) #[] #[] := rfl
            replace hY4 : wr.rowIs y 48 25 (l64 (rhoS (thetaS (roundsS s r)))) := hY4
            go_wp2_with (first
              | refine wpList_index_arr rfl 51 50 (.tmp 13) (.tmp 14) rfl 4 Tryd.underlying51 _ Tryd.underlying50 rfl (by kernel_rfl) (f := stepF) (j := 2) rfl rfl (by omega) ?_
              | (go_at_call 30; refine (pi_any y _ _ hT4.out hY4 hy3).mono ?_; rintro e w6 ⟨rfl, hY6, hg6⟩))
            go_roundw
            case rel => exact ⟨3, by omega, by omega, rfl, hY6, gb_rowIs hR4 hg6 hr2, Lib.hid (hT4.out.grown hg6 hy3), gb_below hb4 hg6 hb4.size hyw⟩
            case measure => simp [intOf]
          · have hv4 : stepF 3 = .func (.func 31) #[] #[] := rfl
            replace hY4 : wr.rowIs y 48 25 (l64 (piS (rhoS (thetaS (roundsS s r))))) := hY4
            go_wp2_with (first
              | refine wpList_index_arr rfl 51 50 (.tmp 13) (.tmp 14) rfl 4 Tryd.underlying51 _ Tryd.underlying50 rfl (by kernel_rfl) (f := stepF) (j := 3) rfl rfl (by omega) ?_
              | (go_at_call 31; refine (chi_any y _ _ hY4).mono ?_; rintro e w6 ⟨rfl, hY6, hg6⟩))
            go_roundw
            case rel => exact ⟨4, by omega, by omega, rfl, hY6, gb_rowIs hR4 hg6 hr2, Lib.hid (hT4.out.grown hg6 hy3), gb_below hb4 hg6 hb4.size hyw⟩
            case measure => simp [intOf]
        · obtain rfl : j = 4 := by omega
          have c0 := hY4.cell (i := 0) (by omega)
          have hfr := hY4.frozen 0
          unfold l64 at c0
          go_wp2
          go_roundw
          case rel =>
            refine ⟨r + 1, by omega, by go_num, (hY4.set 0 _).congr fun k hk => ?_, hR4.setOther hr2 _, Lib.hid (hT4.out.grown (grownBy_set _ _ _ _) hy3), hb4.setCell hyw _⟩
            show (if k = 0 then _ else _) = _
            unfold l64
            show _ = Value.int .u64 ((iotaS r (chiS (piS (rhoS (thetaS (roundsS s r))))) k).toNat : Int)
            unfold iotaS
            by_cases e : k = 0
            · rw [if_pos e, if_pos e]; exact congrArg (Value.int .u64) (xor64 _ _)
            · rw [if_neg e, if_neg e]; rfl
          case measure => simp [intOf]; omega
    · obtain rfl : r = 24 := by omega
      go_wp2_with (first
        | refine wpList_load_arr rfl 48 (.tmp 3) rfl 25 arrState hY rfl (by omega) ?_
        | (refine wpList_store_arr rfl 34 (.tmp 2) (.tmp 26) rfl 25 arr25 hR rfl rfl (by omega) (fun _ _ => rfl) ?_; intro w5 hR5 hg5 hs5))
      refine ret_cell_arr rfl arr25 hR5 rfl (by omega) rfl ⟨?_, ?_⟩
      · refine congrArg (fun x => Ending.returned (.agg x)) (arrOf_congr fun i hi => ?_)
        unfold putN
        rw [if_pos (by omega)]
        show l64 (roundsS s 24) (0 + (0 + i - 0)) = _
        rw [Nat.zero_add, Nat.zero_add, Nat.sub_zero]
        rfl
      · exact gb_below hb hg5 hb.size (by omega)
end Go.Proofs.YtmfogngfdgpahaaDoor
