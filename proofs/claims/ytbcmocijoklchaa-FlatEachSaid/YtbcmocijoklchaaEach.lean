/- flat.fresh, missivelaw1.turn.over, flat.told: a copy in a row of its own, turned in place, copied again. -/
import Derived.Test.YtbcmocijoklchaaXor
import Derived.Laws.CopyOwn
import Derived.Defers
import Derived.Recover
namespace Go.Proofs.Ytbcmocijoklchaa
open Go.RowKit Go.Deep

/-- Block g is a row of the bytes l, which may be written. -/
def RowOf (w : World) (g : Nat) (l : List UInt8) : Prop := w.rowIs g 5 l.length (fun i => .int .u8 ((l.getD i 0).toNat : Int))

theorem RowOf.bs {w : World} {g : Nat} {l : List UInt8} (h : RowOf w g l) (hm : l.length ≤ 9223372036854775807) : Bs w (.slice (some ⟨g, 0, none⟩) l.length l.length) l :=
  Bs.of_rowIs h l (Nat.le_refl _) (by unfold maxLen; omega) (fun i hi => by simp [hi])
theorem RowOf.below {w w' : World} {g B : Nat} {l : List UInt8} (h : RowOf w g l) (hb : Below B w w') (hg : g < B) : RowOf w' g l := h.of_block (hb.block g hg)
theorem RowOf.grown {w w' : World} {g : Nat} {row : Option Nat} {l : List UInt8} (h : RowOf w g l) (hb : w.grownBy w' row) (hg : some g ≠ row) : RowOf w' g l := h.of_block (hb.block g h.lt hg)

theorem made_len (n : Nat) : (madeCells #[Value.int .u8 0] n).toList.length = n := by
  rw [Array.length_toList, size_madeCells]

theorem RowOf.of_splice {w : World} {g : Nat} {l : List UInt8} (h : w.heap[g]? = some (.cells (splice (madeCells #[.int .u8 0] l.length).toList 0 (u8s l)).toArray 5 (0, 0))) : RowOf w g l := by
  have hs : splice (madeCells #[.int .u8 0] l.length).toList 0 (u8s l) = u8s l := by
    unfold splice
    have := made_len l.length
    rw [u8s_length, List.take_zero, List.nil_append, List.drop_eq_nil_of_le (by omega), List.append_nil]
  rw [hs] at h
  refine ⟨_, h, by simp [u8s], fun i hi => ?_⟩
  simp [u8s, hi]

set_option maxHeartbeats 800000 in
theorem fresh_any (v : Value) (l : List UInt8) (w : World) (hv : Bs w v l) (hlen : l.length ≤ 2147483647) :
    Calls Try.prog 39 #[v] w fun e w' => e = .returned (.slice (some ⟨w.heap.size, 0, none⟩) l.length l.length) ∧ RowOf w' w.heap.size l ∧ w.heap.size < w'.heap.size ∧ Below w.heap.size w w' := by
  have HV := Lib.hid hv
  obtain ⟨a, cap, rfl, h1, h2, h3, h4⟩ := hv
  have hsrc : Hid (0 < (u8s l).length → (some (⟨w.heap.size, 0, none⟩ : Addr)) = some ⟨w.heap.size, 0, none⟩ ∧ ∃ ad, a = some ad ∧ ∀ j u, (u8s l)[j]? = some u → (w.alloc (.cells (madeCells #[.int .u8 0] l.length) 5)).cell? (ad.add j) = some u) := Lib.hid (fun hp => by
    rw [u8s_length] at hp
    cases a with
    | none => have := h3 rfl; omega
    | some ad =>
      refine ⟨rfl, ad, rfl, fun j u hj => ?_⟩
      have hj' : j < l.length := by have := (List.getElem?_eq_some_iff.1 hj).1; simpa [u8s] using this
      obtain ⟨g1, g2⟩ := h4 _ rfl j hj'
      rw [World.cell?_alloc_lt _ _ _ (by rw [add_block]; exact g1), g2, ← hj]
      simp [u8s, hj'])
  clear h3 h4
  unfold maxLen at h2
  have hmk := fun (w : World) => run_make_row' (P := Try.prog) 22 5 (.int .u8 0) 1 Try.underlying22 Try.info5 rfl .i64 .i64 l.length (by omega) (by omega) w
  have hsz : (Try.prog.info? 5).map (·.size) = some 1 := by kernel_rfl
  have HSZ := Lib.hid hsz
  have hone : ∀ u ∈ u8s l, u.oneCell' = true := by
    intro u hu
    simp only [u8s, List.mem_map] at hu
    obtain ⟨b, _, rfl⟩ := hu
    rfl
  have HO := Lib.hid hone
  have hfit : Hid (0 + (u8s l).length ≤ (madeCells #[Value.int .u8 0] l.length).toList.length) := Lib.hid (by rw [u8s_length, made_len]; omega)
  have hmin : Hid ((u8s l).length = Nat.min l.length l.length) := Lib.hid (by rw [u8s_length]; exact (Nat.min_self _).symm)
  have HB : Hid ((w.alloc (.cells (madeCells #[.int .u8 0] l.length) 5)).heap[w.heap.size]? = some (.cells (madeCells #[.int .u8 0] l.length).toList.toArray 5 (0, 0))) := Lib.hid (by rw [Array.toArray_toList]; exact heap_alloc_new w _)
  clear hsz hone
  go_enter Try.func39, Try.ntmps39
  go_wp2_with (with_reducible refine wpList_copy_splice rfl _ _ 22 22 rfl 5 Try.underlying22 HSZ.out (some ⟨w.heap.size, 0, none⟩) a l.length l.length l.length cap rfl rfl w.heap.size 0 (madeCells #[.int .u8 0] l.length).toList 5 HB.out (u8s l) hmin.out hsrc.out hfit.out HO.out w.heap.size w ((Below.refl _ _).alloc (Nat.le_refl _) _) (Nat.le_refl _) ?_; intro w2 HG2 hB2)
  have hrow := RowOf.of_splice HG2.out
  clear HG2 HB hsrc hmk
  go_wp2
  go_ret
  exact ⟨rfl, hrow, hrow.lt, hB2⟩

theorem gb_refl (w : World) (r : Option Nat) : w.grownBy w r := ⟨rfl, rfl, rfl, Nat.le_refl _, fun _ _ _ => rfl⟩
theorem gb_trans {a b c : World} {r : Option Nat} (h : a.grownBy b r) (k : b.grownBy c r) : a.grownBy c r :=
  ⟨k.os.trans h.os, k.tape.trans h.tape, k.output.trans h.output, Nat.le_trans h.size k.size, fun i hi hr => (k.block i (Nat.lt_of_lt_of_le hi h.size) hr).trans (h.block i hi hr)⟩
theorem gb_drew {a w : World} {r : Option Nat} (h : a.grownBy w r) : a.grownBy w.drew r := ⟨h.os, h.tape, h.output, h.size, h.block⟩
theorem gb_alloc {a w : World} {r : Option Nat} (h : a.grownBy w r) (o : Obj) : a.grownBy (w.alloc o) r := gb_trans h (World.grownBy_alloc w o r)
theorem gb_set {a w : World} {g j : Nat} {v : Value} (h : a.grownBy w (some g)) : a.grownBy (w.setCell ⟨g, j, none⟩ v) (some g) :=
  gb_trans h ⟨rfl, rfl, rfl, by simp [World.setCell], fun k _ hk => Below.heap_setCell _ _ _ _ (fun e => hk (by rw [e]))⟩
theorem gb_below {a w : World} {B : Nat} {r : Option Nat} (h : Below B a w) (hB : a.heap.size ≤ B) : a.grownBy w r :=
  ⟨h.os, h.tape, h.output, h.size, fun k hk _ => h.block k (by omega)⟩
theorem below_gb {a w w' : World} {B : Nat} {r : Option Nat} (h : Below B a w) (hg : w.grownBy w' r) (hB : B ≤ w.heap.size) (hr : ∀ k, r = some k → B ≤ k) : Below B a w' := h.grown hg hB hr

def xorC (l : List UInt8) (by' : UInt8) : List UInt8 := l.map (· ^^^ by')
theorem xorC_length (l : List UInt8) (c : UInt8) : (xorC l c).length = l.length := by simp [xorC]
/-- Where the turning stands behind j steps. -/
def ovAt (l : List UInt8) (c : UInt8) (j i : Nat) : Value := .int .u8 (((if i < j then l.getD i 0 ^^^ c else l.getD i 0)).toNat : Int)

theorem ov_step {w : World} {g n j : Nat} {l : List UInt8} {c : UInt8} {v : Value} (h : w.rowIs g 5 n (ovAt l c j)) (hv : v = .int .u8 ((l.getD j 0 ^^^ c).toNat : Int)) : (w.setCell ⟨g, j, none⟩ v).rowIs g 5 n (ovAt l c (j + 1)) := by
  refine (h.set j v).congr fun i _ => ?_
  show (if i = j then v else ovAt l c j i) = ovAt l c (j + 1) i
  unfold ovAt
  by_cases e : i = j
  · subst e; rw [if_pos rfl, if_pos (by omega), hv]
  · rw [if_neg e]
    by_cases h2 : i < j
    · rw [if_pos h2, if_pos (by omega)]
    · rw [if_neg h2, if_neg (by omega)]

set_option maxHeartbeats 1600000 in
theorem over_any (c : UInt8) (g n : Nat) (l : List UInt8) (w : World) (hr : RowOf w g l) (hn : l.length = n) (hlen : n ≤ 2147483647) :
    Calls Try.prog 28 #[.agg #[.int .u8 (c.toNat : Int)], .slice (some ⟨g, 0, none⟩) n n] w fun e w' => e = .returned (.slice (some ⟨g, 0, none⟩) n n) ∧ RowOf w' g (xorC l c) ∧ w.grownBy w' (some g) := by
  have hg : g < w.heap.size := hr.lt
  have HN := Lib.hid hn
  have hrow : w.rowIs g 5 n (ovAt l c 0) := by
    unfold RowOf at hr
    rw [hn] at hr
    exact hr.congr fun i _ => rfl
  have hrow2 := hrow.alloc (.cells #[.int .u8 (c.toNat : Int)] 44)
  have hgb : w.grownBy (w.alloc (.cells #[.int .u8 (c.toNat : Int)] 44)) (some g) := World.grownBy_alloc _ _ _
  have hcb : (w.alloc (.cells #[.int .u8 (c.toNat : Int)] 44)).heap[w.heap.size]? = some (.cells #[.int .u8 (c.toNat : Int)] 44 (0, 0)) := heap_alloc_new w _
  have HH := Lib.hid (And.intro hrow2 (And.intro hgb hcb))
  clear hr hn hrow hrow2 hgb hcb
  go_enter Try.func28, Try.ntmps28
  go_wp2
  go_loopw [5] (fun i wr => ∃ j : Nat, j ≤ n ∧ i = .int .i64 j ∧ wr.rowIs g 5 n (ovAt l c j) ∧ w.grownBy wr (some g) ∧ wr.heap[w.heap.size]? = some (.cells #[.int .u8 (c.toNat : Int)] 44 (0, 0))) (fun i _ => n - (intOf i).toNat)
  case atStart => exact ⟨0, Nat.zero_le _, rfl, HH.out.1, HH.out.2.1, HH.out.2.2⟩
  case round =>
    obtain ⟨j, hj, rfl, hrow, hgb, hcb⟩ := hrel
    by_cases hlt : j < n
    · have hcell := hrow.cell hlt
      have hfr := hrow.frozen j
      have hcc := cell_of_one hcb
      have hne : ¬ g = w.heap.size := by omega
      have hval : ovAt l c j j = .int .u8 ((l.getD j 0).toNat : Int) := by unfold ovAt; rw [if_neg (by omega)]
      rw [hval] at hcell
      have hi1 : 0 ≤ (j : Int) ∧ (j : Int) < (n : Int) := by omega
      have hx := bits_xorB (l.getD j 0) c
      have HX : Hid (∀ v, v = Value.int .u8 ((((l.getD j 0).toNat ^^^ c.toNat : Nat)) : Int) → v = .int .u8 ((l.getD j 0 ^^^ c).toNat : Int)) := Lib.hid (by intro v hv; rw [hv, UInt8.toNat_xor])
      generalize hxx : l.getD j 0 = x at *
      have HXX := Lib.hid hxx
      clear hval hxx
      go_wp2
      go_region
      go_wp2
      go_roundw
      case rel => exact ⟨j + 1, by omega, by go_num, ov_step hrow.drew (by rw [HXX.out]; exact HX.out _ rfl), gb_set (gb_drew hgb), (Below.heap_setCell _ _ _ _ (fun e => hne e.symm)).trans hcb⟩
      case measure => simp [intOf]; omega
    · obtain rfl : j = n := by omega
      go_wp2
      go_ret
      refine ⟨rfl, ?_, hgb⟩
      unfold RowOf
      rw [xorC_length, HN.out]
      refine hrow.congr fun i hi => ?_
      unfold ovAt
      rw [if_pos hi]
      have := HN.out
      simp [xorC, show i < l.length by omega]
end Go.Proofs.Ytbcmocijoklchaa
