/- flat.Each: with nil, and with a function of which it is known what flat.told makes of it. -/
import Derived.Test.YtbcmocijoklchaaTold
namespace Go.Proofs.Ytbcmocijoklchaa
open Go.RowKit Go.Deep

theorem Try.info22 : (Try.prog.info? 22).map (fun i => (i.zero, i.size, i.bytes)) = some (some (.slice none 0 0), 1, 24) := by kernel_rfl

/-- A slice over the whole of block g. -/
def sl (g : Nat) (l : List UInt8) : Value := .slice (some ⟨g, 0, none⟩) l.length l.length

/-- Behind j rounds of copying: the row of the answer, the copies. -/
structure Copied (w wr : World) (n j : Nat) (L : Nat → List UInt8) (g : Nat → Nat) : Prop where
  row : wr.rowIs w.heap.size 22 n (fun i => if i < j then sl (g i) (L i) else .slice none 0 0)
  own : ∀ i, i < j → w.heap.size < g i ∧ RowOf wr (g i) (L i)
  up : ∀ i k, i < k → k < j → g i < g k
  bel : Below w.heap.size w wr

theorem RowOf.setOther {w : World} {g : Nat} {l : List UInt8} {a : Addr} (h : RowOf w g l) (ha : g ≠ a.block) (v : Value) : RowOf (w.setCell a v) g l := World.rowIs.setOther h ha v

theorem Copied.step {w wr w1 : World} {n j : Nat} {L : Nat → List UInt8} {g : Nat → Nat} (h : Copied w wr n j L g) (hb : Below wr.heap.size wr w1) (hn : RowOf w1 wr.heap.size (L j)) :
    Copied w (w1.setCell ⟨w.heap.size, j, none⟩ (sl wr.heap.size (L j))) n (j + 1) L (fun i => if i = j then wr.heap.size else g i) := by
  have hB : w.heap.size < wr.heap.size := h.row.lt
  refine ⟨?_, fun i hi => ?_, fun i k hik hk => ?_, ?_⟩
  · refine ((h.row.of_block (hb.block _ hB)).set j (sl wr.heap.size (L j))).congr fun i _ => ?_
    show (if i = j then sl wr.heap.size (L j) else if i < j then sl (g i) (L i) else .slice none 0 0) = (if i < j + 1 then sl (if i = j then wr.heap.size else g i) (L i) else .slice none 0 0)
    by_cases e : i = j
    · subst e; rw [if_pos rfl, if_pos (by omega), if_pos rfl]
    · rw [if_neg e, if_neg e]
      by_cases h2 : i < j
      · rw [if_pos h2, if_pos (by omega)]
      · rw [if_neg h2, if_neg (by omega)]
  · by_cases e : i = j
    · subst e
      simp only [if_true]
      exact ⟨hB, hn.setOther (by simp; omega) _⟩
    · simp only [if_neg e]
      obtain ⟨h1, h2⟩ := h.own i (by omega)
      exact ⟨h1, (h2.below hb h2.lt).setOther (by simp; omega) _⟩
  · by_cases e : k = j
    · subst e
      simp only [if_true, if_neg (show ¬ i = k by omega)]
      exact (h.own i hik).2.lt
    · simp only [if_neg e, if_neg (show ¬ i = j by omega)]
      exact h.up i k hik (by omega)
  · exact (h.bel.trans (hb.mono h.bel.size)).setCell (Nat.le_refl _) _

/-- Behind j rounds of telling. -/
structure Telling (w wr : World) (n j G : Nat) (L M : Nat → List UInt8) (g h : Nat → Nat) : Prop where
  row : wr.rowIs w.heap.size 22 n (fun i => if i < j then sl (h i) (M i) else sl (g i) (L i))
  done : ∀ i, i < j → G ≤ h i ∧ RowOf wr (h i) (M i)
  rest : ∀ i, j ≤ i → i < n → RowOf wr (g i) (L i)
  low : ∀ i, i < n → w.heap.size < g i ∧ g i < G
  up : ∀ i k, i < k → k < n → g i < g k
  size : G ≤ wr.heap.size
  bel : Below w.heap.size w wr

theorem Copied.telling {w wr : World} {n : Nat} {L M : Nat → List UInt8} {g : Nat → Nat} (h : Copied w wr n n L g) : Telling w wr n 0 wr.heap.size L M g (fun _ => 0) :=
  ⟨h.row.congr fun i hi => by show (if i < n then _ else _) = (if i < 0 then _ else _); rw [if_pos hi, if_neg (by omega)], fun i hi => absurd hi (by omega), fun i _ hi => (h.own i hi).2,
    fun i hi => ⟨(h.own i hi).1, (h.own i hi).2.lt⟩, h.up, Nat.le_refl _, h.bel⟩

theorem Telling.step {w wr w1 : World} {n j G x : Nat} {L M : Nat → List UInt8} {g h : Nat → Nat} (t : Telling w wr n j G L M g h) (hj : j < n) (hg : wr.grownBy w1 (some (g j))) (hx : wr.heap.size ≤ x) (hn : RowOf w1 x (M j)) :
    Telling w (w1.setCell ⟨w.heap.size, j, none⟩ (sl x (M j))) n (j + 1) G L M g (fun i => if i = j then x else h i) := by
  have hB : w.heap.size < wr.heap.size := t.row.lt
  have hgj := t.low j hj
  refine ⟨?_, fun i hi => ?_, fun i h1 h2 => ?_, t.low, t.up, ?_, ?_⟩
  · refine ((t.row.of_block (hg.block _ hB (by simp; omega))).set j (sl x (M j))).congr fun i _ => ?_
    show (if i = j then sl x (M j) else if i < j then sl (h i) (M i) else sl (g i) (L i)) = (if i < j + 1 then sl (if i = j then x else h i) (M i) else sl (g i) (L i))
    by_cases e : i = j
    · subst e; rw [if_pos rfl, if_pos (by omega), if_pos rfl]
    · rw [if_neg e, if_neg e]
      by_cases h2 : i < j
      · rw [if_pos h2, if_pos (by omega)]
      · rw [if_neg h2, if_neg (by omega)]
  · by_cases e : i = j
    · subst e
      simp only [if_true]
      have := t.size
      exact ⟨by omega, hn.setOther (by simp; omega) _⟩
    · simp only [if_neg e]
      obtain ⟨h1, h2⟩ := t.done i (by omega)
      exact ⟨h1, (h2.grown hg (by simp; omega)).setOther (by simp; omega) _⟩
  · have h3 := t.rest i (by omega) h2
    have h4 := t.up j i (by omega) h2
    have h5 := t.low i h2
    exact (h3.grown hg (by simp; omega)).setOther (by simp; omega) _
  · have := hg.size
    have := t.size
    simp
    omega
  · exact (t.bel.grown hg (by omega) (fun k hk => by cases hk; omega)).setCell (Nat.le_refl _) _

/-- A row of slices of the call's own, read. -/
theorem bss_of_row {w : World} {B n : Nat} {L : Nat → List UInt8} {g : Nat → Nat} (h : w.rowIs B 22 n (fun i => sl (g i) (L i))) (ho : ∀ i, i < n → RowOf w (g i) (L i)) (hl : ∀ i, i < n → (L i).length ≤ 2147483647) (hn : n ≤ 2147483647) :
    Bss w (.slice (some ⟨B, 0, none⟩) n n) ((List.range n).map L) := by
  refine ⟨some ⟨B, 0, none⟩, n, by simp, by simp, by unfold maxLen; omega, (fun h => by cases h), fun x hx i hi => ?_⟩
  cases hx
  have hi' : i < n := by simpa using hi
  refine ⟨h.lt, sl (g i) (L i), by rw [add_eq]; simpa using h.cell hi', ?_⟩
  have := (ho i hi').bs (by have := hl i hi'; omega)
  simpa [sl] using this

def getL (L : List (List UInt8)) (i : Nat) : List UInt8 := L.getD i []
theorem getL_map (L : List (List UInt8)) : (List.range L.length).map (getL L) = L := by
  apply List.ext_getElem
  · simp
  · intro i h1 h2; simp [getL, h2]

set_option maxHeartbeats 1600000 in
theorem each_nil (vl : Value) (L : List (List UInt8)) (w : World) (hv : Bss w vl L) (hL : ∀ i, (getL L i).length ≤ 1000000) (hn : L.length ≤ 1000000) :
    Calls Try.prog 31 #[vl, .nilFunc] w fun e w' => ∃ v, e = .returned v ∧ Bss w' v L ∧ Below w.heap.size w w' := by
  have HV := Lib.hid hv
  obtain ⟨a, cap, rfl, h1, h2, h3, h4⟩ := hv
  clear h3 h4
  unfold maxLen at h2
  have HL := Lib.hid hL
  have HM := Lib.hid (getL_map L)
  have HG : Hid (∀ i, i < L.length → getL L i = L.getD i []) := Lib.hid (fun i _ => rfl)
  clear hL
  generalize hnn : L.length = n at *
  have HN := Lib.hid hnn
  clear hnn
  have hmk := fun (w : World) => run_make_row' (P := Try.prog) 23 22 (.slice none 0 0) 24 Try.underlying23 Try.info22 rfl .i64 .i64 n (by omega) (by omega) w
  have hmade := World.rowIs_made w (.slice none 0 0) n 22
  have HC : Hid (Copied w (w.alloc (.cells (madeCells #[.slice none 0 0] n) 22)) n 0 (getL L) (fun _ => 0)) := Lib.hid ⟨hmade.congr fun i _ => rfl, fun i hi => absurd hi (by omega), fun i k _ hk => absurd hk (by omega), (Below.refl _ _).alloc (Nat.le_refl _) _⟩
  clear hmade
  have hq : ∀ w : World, (binOp .eql 45 .nilFunc .nilFunc).run Try.prog w = .ok (.bool true) w := fun _ => by kernel_rfl
  go_enter Try.func31, Try.ntmps31
  go_wp2
  go_loopw [15] (fun i wr => ∃ (j : Nat) (g : Nat → Nat), j ≤ n ∧ i = .int .i64 j ∧ Copied w wr n j (getL L) g) (fun i _ => n - (intOf i).toNat)
  case atStart => exact ⟨0, _, Nat.zero_le _, rfl, HC.out⟩
  case round =>
    obtain ⟨j, g, hj, rfl, hc⟩ := hrel
    have HC := Lib.hid hc
    clear hc hmk
    by_cases hlt : j < n
    · have hjl : j < L.length := by rw [HN.out]; exact hlt
      obtain ⟨b, off, cap', he, _, _, hbl, hce⟩ := HV.out.open_cons (by rw [HN.out]; omega)
      rw [HN.out] at he
      cases he
      obtain ⟨u, hcj, hu⟩ := hce j hjl
      clear hce
      have hcr : wr.cell? ⟨b, off + j, none⟩ = some u := (HC.out.bel.cell (by exact hbl)).trans hcj
      have hur : Bs wr u (getL L j) := by
        have e : getL L j = L[j] := by simp [getL, hjl]
        rw [e]; exact hu.below HC.out.bel (Nat.le_refl _)
      have HU := Lib.hid hur
      clear hcj hu hur
      have hlj := HL.out j
      have HLJ := Lib.hid hlj
      clear hlj
      go_wp2_with fail
      refine (fresh_any _ (getL L j) _ HU.out (by have := HLJ.out; omega)).mono ?_
      rintro e w2 ⟨rfl, hf1, hf2, hf3⟩
      have hc1 : w2.cell? ⟨w.heap.size, j, none⟩ = some (.slice none 0 0) := by
        have h1 := HC.out.row.cell hlt
        rw [if_neg (by omega)] at h1
        exact (hf3.cell (by exact HC.out.row.lt)).trans h1
      have hc2 : w2.frozen? ⟨w.heap.size, j, none⟩ = false := (hf3.frozen (by exact HC.out.row.lt)).trans (HC.out.row.frozen j)
      have HS := Lib.hid (HC.out.step hf3 hf1)
      have hi1 : 0 ≤ (j : Int) ∧ (j : Int) < (n : Int) := by omega
      clear hf1 hf2 hf3 hcr
      go_wp2
      go_roundw
      case rel => exact ⟨j + 1, _, by omega, by go_num, HS.out⟩
      case measure => simp [intOf]; omega
    · obtain rfl : j = n := by omega
      go_wp2
      go_ret
      have hr : wr.rowIs w.heap.size 22 j (fun i => sl (g i) (getL L i)) := HC.out.row.congr fun i hi => by rw [if_pos hi]
      have hb := bss_of_row hr (fun i hi => (HC.out.own i hi).2) (fun i _ => by have := HL.out i; omega) (by omega)
      have hm := HM.out
      rw [hm] at hb
      exact ⟨_, rfl, hb, HC.out.bel⟩

set_option maxHeartbeats 1600000 in
theorem each_fn (vl : Value) (L : List (List UInt8)) (F : List UInt8 → List UInt8) (fn : Fn) (first capt : Array Value) (w : World) (hv : Bss w vl L) (hL : ∀ i, (getL L i).length ≤ 1000000) (hn : L.length ≤ 1000000) (hF : ∀ l, (F l).length = l.length)
    (hq : ∀ w : World, (binOp .eql 45 (.func fn first capt) .nilFunc).run Try.prog w = .ok (.bool false) w)
    (T : ∀ (w1 : World) (g m : Nat) (l : List UInt8), Below w.heap.size w w1 → RowOf w1 g l → l.length = m → m ≤ 2147483647 → Calls Try.prog 40 #[.func fn first capt, .slice (some ⟨g, 0, none⟩) m m] w1 fun e w' =>
      ∃ h, e = .returned (.slice (some ⟨h, 0, none⟩) m m) ∧ w1.heap.size ≤ h ∧ RowOf w' h (F l) ∧ w1.grownBy w' (some g)) :
    Calls Try.prog 31 #[vl, .func fn first capt] w fun e w' => ∃ v, e = .returned v ∧ Bss w' v (L.map F) ∧ Below w.heap.size w w' := by
  have HT := Lib.hid T
  have HF := Lib.hid hF
  clear T hF
  have HV := Lib.hid hv
  obtain ⟨a, cap, rfl, h1, h2, h3, h4⟩ := hv
  clear h3 h4
  unfold maxLen at h2
  have HL := Lib.hid hL
  have HM := Lib.hid (getL_map L)
  have HG : Hid (∀ i, i < L.length → getL L i = L.getD i []) := Lib.hid (fun i _ => rfl)
  clear hL
  generalize hnn : L.length = n at *
  have HN := Lib.hid hnn
  clear hnn
  have hmk := fun (w : World) => run_make_row' (P := Try.prog) 23 22 (.slice none 0 0) 24 Try.underlying23 Try.info22 rfl .i64 .i64 n (by omega) (by omega) w
  have hmade := World.rowIs_made w (.slice none 0 0) n 22
  have HC : Hid (Copied w (w.alloc (.cells (madeCells #[.slice none 0 0] n) 22)) n 0 (getL L) (fun _ => 0)) := Lib.hid ⟨hmade.congr fun i _ => rfl, fun i hi => absurd hi (by omega), fun i k _ hk => absurd hk (by omega), (Below.refl _ _).alloc (Nat.le_refl _) _⟩
  clear hmade
  go_enter Try.func31, Try.ntmps31
  go_wp2
  go_loopw [15] (fun i wr => ∃ (j : Nat) (g : Nat → Nat), j ≤ n ∧ i = .int .i64 j ∧ Copied w wr n j (getL L) g) (fun i _ => n - (intOf i).toNat)
  case atStart => exact ⟨0, _, Nat.zero_le _, rfl, HC.out⟩
  case round =>
    obtain ⟨j, g, hj, rfl, hc⟩ := hrel
    have HC := Lib.hid hc
    clear hc hmk
    by_cases hlt : j < n
    · have hjl : j < L.length := by rw [HN.out]; exact hlt
      obtain ⟨b, off, cap', he, _, _, hbl, hce⟩ := HV.out.open_cons (by rw [HN.out]; omega)
      rw [HN.out] at he
      cases he
      obtain ⟨u, hcj, hu⟩ := hce j hjl
      clear hce
      have hcr : wr.cell? ⟨b, off + j, none⟩ = some u := (HC.out.bel.cell (by exact hbl)).trans hcj
      have hur : Bs wr u (getL L j) := by
        have e : getL L j = L[j] := by simp [getL, hjl]
        rw [e]; exact hu.below HC.out.bel (Nat.le_refl _)
      have HU := Lib.hid hur
      clear hcj hu hur
      have hlj := HL.out j
      have HLJ := Lib.hid hlj
      clear hlj
      go_wp2_with fail
      refine (fresh_any _ (getL L j) _ HU.out (by have := HLJ.out; omega)).mono ?_
      rintro e w2 ⟨rfl, hf1, hf2, hf3⟩
      have hc1 : w2.cell? ⟨w.heap.size, j, none⟩ = some (.slice none 0 0) := by
        have h1 := HC.out.row.cell hlt
        rw [if_neg (by omega)] at h1
        exact (hf3.cell (by exact HC.out.row.lt)).trans h1
      have hc2 : w2.frozen? ⟨w.heap.size, j, none⟩ = false := (hf3.frozen (by exact HC.out.row.lt)).trans (HC.out.row.frozen j)
      have HS := Lib.hid (HC.out.step hf3 hf1)
      have hi1 : 0 ≤ (j : Int) ∧ (j : Int) < (n : Int) := by omega
      clear hf1 hf2 hf3 hcr
      go_wp2
      go_roundw
      case rel => exact ⟨j + 1, _, by omega, by go_num, HS.out⟩
      case measure => simp [intOf]; omega
    · obtain rfl : j = n := by omega
      have HT0 := Lib.hid (HC.out.telling (M := fun i => F (getL L i)))
      obtain ⟨G, hG⟩ : ∃ G, G = wr.heap.size := ⟨_, rfl⟩
      have HT1 : Hid (Telling w wr j 0 G (getL L) (fun i => F (getL L i)) g (fun _ => 0)) := Lib.hid (by rw [hG]; exact HT0.out)
      clear HT0 HC hG
      go_wp2
      go_loopw [31] (fun i wq => ∃ (k : Nat) (h : Nat → Nat), k ≤ j ∧ i = .int .i64 k ∧ Telling w wq j k G (getL L) (fun i => F (getL L i)) g h) (fun i _ => j - (intOf i).toNat)
      case atStart => exact ⟨0, _, Nat.zero_le _, rfl, HT1.out⟩
      case round =>
        obtain ⟨k, h, hk, rfl, ht⟩ := hrel
        have HK := Lib.hid ht
        clear ht HT1
        by_cases hlt : k < j
        · obtain ⟨x, hx⟩ : ∃ x, x = (getL L k).length := ⟨_, rfl⟩
          have HX := Lib.hid hx
          have hcell : wr.cell? ⟨w.heap.size, k, none⟩ = some (.slice (some ⟨g k, 0, none⟩) x x) := by
            have h1 := HK.out.row.cell hlt
            rw [if_neg (by omega)] at h1
            rw [h1, hx]; rfl
          clear hx
          have hi1 : 0 ≤ (k : Int) ∧ (k : Int) < (j : Int) := by omega
          go_wp2_with fail
          refine (HT.out _ (g k) x (getL L k) HK.out.bel (HK.out.rest k (Nat.le_refl _) hlt) HX.out.symm (by have := HL.out k; have := HX.out; omega)).mono ?_
          rintro e w2 ⟨y, rfl, hf1, hf2, hf3⟩
          have hlo := HK.out.low k hlt
          have hBl := HK.out.row.lt
          have hc1 : ∃ u, w2.cell? ⟨w.heap.size, k, none⟩ = some u := ⟨_, (World.cell?_of_block (w := wr) (a := ⟨w.heap.size, k, none⟩) (hf3.block _ hBl (by simp; omega))).trans (HK.out.row.cell hlt)⟩
          have hc2 : w2.frozen? ⟨w.heap.size, k, none⟩ = false := (World.frozen?_of_block (w := wr) (a := ⟨w.heap.size, k, none⟩) (hf3.block _ hBl (by simp; omega))).trans (HK.out.row.frozen k)
          obtain ⟨u, hc1⟩ := hc1
          have HS := Lib.hid (HK.out.step hlt hf3 hf1 hf2)
          have HV : Hid (Value.slice (some ⟨y, 0, none⟩) x x = sl y (F (getL L k))) := Lib.hid (by unfold sl; rw [HF.out, HX.out])
          clear hf1 hf2 hf3 hcell hlo hBl
          go_wp2
          go_roundw
          case rel => exact ⟨k + 1, _, by omega, by go_num, by have := HS.out; rw [← HV.out] at this; exact this⟩
          case measure => simp [intOf]; omega
        · obtain rfl : k = j := by omega
          go_wp2
          go_ret
          have hr : wr.rowIs w.heap.size 22 k (fun i => sl (h i) (F (getL L i))) := HK.out.row.congr fun i hi => by rw [if_pos hi]
          have hb := bss_of_row (L := fun i => F (getL L i)) hr (fun i hi => (HK.out.done i hi).2) (fun i _ => by show (F (getL L i)).length ≤ _; rw [HF.out]; have := HL.out i; omega) (by omega)
          have hm : (List.range k).map (fun i => F (getL L i)) = L.map F := by
            have := congrArg (List.map F) HM.out
            rw [List.map_map] at this
            exact this
          rw [hm] at hb
          exact ⟨_, rfl, hb, HK.out.bel⟩
end Go.Proofs.Ytbcmocijoklchaa
