/- missivelaw3.Sha3Cuts: what stands while its terms are reckoned. -/
import Derived.Test.YtmfogngfdgpahaaDoorLawReads
import Derived.Test.YtmfogngfdgpahaaDoorLintZ
namespace Go.Proofs.YtmfogngfdgpahaaDoor
open Go.RowKit Go.Deep

theorem rdr_cell {w : World} {y p : Nat} {b : List UInt8} (h : ReaderAt w y b p) {off : Nat} {v : Value} (hv : w.cell? ⟨y, off, none⟩ = some v) : ∃ k z, v = .int k z ∧ k ≠ .u8 := by
  unfold ReaderAt at h
  by_cases hi : off < 27
  · have h1 := h.cell hi
    rw [hv] at h1
    obtain rfl := Option.some.inj h1
    unfold spF
    split
    · exact ⟨_, _, rfl, by decide⟩
    · split
      · exact ⟨_, _, rfl, by decide⟩
      · exact ⟨_, _, rfl, by decide⟩
  · obtain ⟨c, hc, hs, _⟩ := h
    simp [World.cell?, hc, hs, hi] at hv
/-- What reads as bytes does not lie in a reader. -/
theorem awayR {w : World} {y p : Nat} {b : List UInt8} {v : Value} {l : List UInt8} (h : Bs w v l) (hR : ReaderAt w y b p) : Away v y := by
  intro x n c he hn hxy
  obtain ⟨a, cap, rfl, h1, h2, h3, h4⟩ := h
  cases he
  obtain ⟨g1, g2⟩ := h4 x rfl 0 hn
  obtain ⟨xb, xo, xs⟩ := x
  have hs : xs = none := by simpa [Addr.add] using World.cell?_spot g2
  subst hs
  replace hxy : xb = y := hxy
  subst hxy
  rw [add_eq] at g2
  obtain ⟨k, z, e, hk⟩ := rdr_cell hR g2
  cases e
  exact hk rfl
theorem Bss.gbR {w w' : World} {y p : Nat} {b : List UInt8} {v : Value} {L : List (List UInt8)} (h : Bss w v L) (hR : ReaderAt w y b p) (hg : w.grownBy w' (some y)) : Bss w' v L := by
  obtain ⟨a, cap, rfl, h1, h2, h3, h4⟩ := h
  refine ⟨a, cap, rfl, h1, h2, h3, fun x hx i hi => ?_⟩
  obtain ⟨g1, u, g2, g3⟩ := h4 x hx i hi
  have hne : x.block ≠ y := by
    intro e
    obtain ⟨xb, xo, xs⟩ := x
    obtain ⟨au, cu, rfl, _⟩ := g3
    have hs : xs = none := by
      obtain ⟨_, u0, g0, _⟩ := h4 _ hx 0 (by omega)
      simpa [Addr.add] using World.cell?_spot g0
    subst hs
    replace e : xb = y := e
    subst e
    rw [add_eq] at g2
    obtain ⟨k, z, e, hk⟩ := rdr_cell hR g2
    cases e
  refine ⟨Nat.lt_of_lt_of_le g1 hg.size, u, ?_, gb_bs g3 hg (awayR g3 hR)⟩
  exact (World.cell?_of_block (w := w) (by rw [add_block]; exact hg.block _ g1 (fun e => hne (Option.some.inj e)))).trans g2

structure CutF (w : World) (y : Nat) (ab : Option Addr) (nb cb k : Nat) (ad2 ax : Option Addr) (cx : Nat) (lb : List UInt8) (p : Nat) (w' : World) : Prop where
  laid : Laid3 w'
  y3 : 3 ≤ y
  yw : w.heap.size ≤ y
  b : Bs w' (.slice ab nb cb) lb
  b1 : Bs w' (.slice ab k cb) (lb.take k)
  b2 : Bs w' (.slice ad2 (nb - k) (cb - k)) (lb.drop k)
  x : Bs w' (.slice ax 32 cx) (spongeL 136 6 lb 32)
  rd : ReaderAt w' y lb p
  below : Below w.heap.size w w'
theorem ReaderAt.below {w w' : World} {y p : Nat} {b : List UInt8} (h : ReaderAt w y b p) (hb : Below w.heap.size w w') : ReaderAt w' y b p := World.rowIs.of_block h (hb.block _ (World.rowIs.lt h))
theorem CutF.go {w w1 w2 : World} {y : Nat} {ab : Option Addr} {nb cb k : Nat} {ad2 ax : Option Addr} {cx : Nat} {lb : List UInt8} {p : Nat} (F : CutF w y ab nb cb k ad2 ax cx lb p w1) (hb : Below w1.heap.size w1 w2) : CutF w y ab nb cb k ad2 ax cx lb p w2 :=
  ⟨F.laid.below hb F.laid.size, F.y3, F.yw, F.b.below hb (Nat.le_refl _), F.b1.below hb (Nat.le_refl _), F.b2.below hb (Nat.le_refl _), F.x.below hb (Nat.le_refl _), F.rd.below hb, F.below.trans (hb.mono F.below.size)⟩
theorem CutF.read {w w1 w2 : World} {y : Nat} {ab : Option Addr} {nb cb k : Nat} {ad2 ax : Option Addr} {cx : Nat} {lb : List UInt8} {p q : Nat} (F : CutF w y ab nb cb k ad2 ax cx lb p w1) (hR : ReaderAt w2 y lb q) (hg : w1.grownBy w2 (some y)) : CutF w y ab nb cb k ad2 ax cx lb q w2 :=
  ⟨F.laid.grown hg F.y3, F.y3, F.yw, gb_bs F.b hg (awayR F.b F.rd), gb_bs F.b1 hg (awayR F.b1 F.rd), gb_bs F.b2 hg (awayR F.b2 F.rd), gb_bs F.x hg (awayR F.x F.rd), hR, gb_below F.below hg F.below.size F.yw⟩

theorem sum3_256_eq (v : Value) (L : List (List UInt8)) (l : List UInt8) (w : World) (hL : Laid3 w) (hB : Bss w v L) (hf : L.flatten = l) :
    Calls Tryd.prog 11 #[v] w fun e w' => ∃ v', e = .returned v' ∧ Bs w' v' (spongeL 136 6 l 32) ∧ Below w.heap.size w w' := by
  subst hf; exact sum3_256_any v L w hL hB
theorem sum3_512_eq (v : Value) (L : List (List UInt8)) (l : List UInt8) (w : World) (hL : Laid3 w) (hB : Bss w v L) (hf : L.flatten = l) :
    Calls Tryd.prog 13 #[v] w fun e w' => ∃ v', e = .returned v' ∧ Bs w' v' (spongeL 72 6 l 64) ∧ Below w.heap.size w w' := by
  subst hf; exact sum3_512_any v L w hL hB
theorem shake128_eq (n : Int) (v : Value) (L : List (List UInt8)) (l : List UInt8) (w : World) (hL : Laid3 w) (hB : Bss w v L) (hf : L.flatten = l) (hn : n ≤ 65536) :
    Calls Tryd.prog 14 #[.int .i64 n, v] w fun e w' => ∃ v', e = .returned v' ∧ Bs w' v' (outL 168 (closedS 168 31 l) n.toNat) ∧ Below w.heap.size w w' := by
  subst hf
  have h := shake128_any n v L w hL hB (by omega)
  rw [show min n 65536 = n by omega] at h
  exact h
theorem shake256_eq (n : Int) (v : Value) (L : List (List UInt8)) (l : List UInt8) (w : World) (hL : Laid3 w) (hB : Bss w v L) (hf : L.flatten = l) (hn : n ≤ 65536) :
    Calls Tryd.prog 16 #[.int .i64 n, v] w fun e w' => ∃ v', e = .returned v' ∧ Bs w' v' (outL 136 (closedS 136 31 l) n.toNat) ∧ Below w.heap.size w w' := by
  subst hf
  have h := shake256_any n v L w hL hB (by omega)
  rw [show min n 65536 = n by omega] at h
  exact h
theorem rread_eq (y : Nat) (b : List UInt8) (n : Int) (w : World) (hL : Laid3 w) (hR : ReaderAt w y b 0) (hy : 3 ≤ y) (h0 : 1 ≤ n) (h1 : n ≤ 65536) :
    Calls Tryd.prog 21 #[.pointer (some ⟨y, 0, none⟩), .int .i64 n] w fun e w' => ∃ v, e = .returned v ∧ Bs w' v (outL 168 (closedS 168 31 b) n.toNat) ∧ ReaderAt w' y b n.toNat ∧ w.grownBy w' (some y) := by
  have h := rread_in y b 0 n w hL hR hy h0 h1
  rw [Nat.zero_add, pieceL_zero] at h
  exact h
theorem newReader_eq (v : Value) (L : List (List UInt8)) (l : List UInt8) (w : World) (hL : Laid3 w) (hB : Bss w v L) (hf : L.flatten = l) :
    Calls Tryd.prog 20 #[v] w fun e w' => ∃ y, e = .returned (.pointer (some ⟨y, 0, none⟩)) ∧ w.heap.size ≤ y ∧ ReaderAt w' y l 0 ∧ Below w.heap.size w w' := by
  subst hf; exact newReader_any v L w hL hB

/-- 's[k:]'. -/
theorem cut_any {w : World} {ad : Option Addr} {n cap : Nat} {l : List UInt8} (hB : Bs w (.slice ad n cap) l) (k : Nat) (hk : k ≤ n) :
    ∃ ad2, (∀ w0, (Instr.sliceAt 25 (.slice ad n cap) (some (.int .i64 (k : Int))) none none).run Tryd.prog w0 = .ok (.slice ad2 (n - k) (cap - k)) w0) ∧ Bs w (.slice ad2 (n - k) (cap - k)) (l.drop k) :=
  ⟨_, fun w0 => run_sliceFrom (P := Tryd.prog) w0 25 5 ad n cap k .i64 Tryd.underlying25 (by kernel_rfl) hk, hB.drop hk⟩
theorem exec_sliceFromR {w : World} (ρ : Operand → Value) (x lo : Operand) (t : TypeId) {ad ad2 : Option Addr} {n cap k n2 c2 : Nat} (hx : ρ x = .slice ad n cap) (hlo : ρ lo = .int .i64 (k : Int)) (hr : ∀ w0, (Instr.sliceAt 25 (.slice ad n cap) (some (.int .i64 (k : Int))) none none).run Tryd.prog w0 = .ok (.slice ad2 n2 c2) w0) :
    (execOp ρ (mkOp (.slice 25 x (some lo) none none) t)).run Tryd.prog w = .ok (.value (.slice ad2 n2 c2)) w := by
  simp [execOp, mkOp, hx, hlo, hr w, Result.andThen]

theorem Bss.three {w : World} {v1 v2 v3 : Value} {l1 l2 l3 : List UInt8} (h1 : Bs w v1 l1) (h2 : Bs w v2 l2) (h3 : Bs w v3 l3) {n : Nat} (hn : w.heap.size = n) : Bss (w.alloc (.cells #[v1, v2, v3] 25)) (.slice (some ⟨n, 0, none⟩) 3 3) [l1, l2, l3] := by
  subst hn
  have hb : Below w.heap.size w (w.alloc (.cells #[v1, v2, v3] 25)) := (Below.refl _ _).alloc (Nat.le_refl _) _
  refine ⟨_, 3, rfl, by simp, by simp [maxLen], (fun h => by cases h), fun x hx i hi => ?_⟩
  cases hx
  match i, hi with
  | 0, _ =>
    refine ⟨by simp, v1, ?_, h1.below hb (Nat.le_refl _)⟩
    rw [add_eq]
    exact World.cell?_alloc_mark w #[v1, v2, v3] 25 (0, 0) 0
  | 1, _ =>
    refine ⟨by simp, v2, ?_, h2.below hb (Nat.le_refl _)⟩
    rw [add_eq]
    exact World.cell?_alloc_mark w #[v1, v2, v3] 25 (0, 0) 1
  | 2, _ =>
    refine ⟨by simp, v3, ?_, h3.below hb (Nat.le_refl _)⟩
    rw [add_eq]
    exact World.cell?_alloc_mark w #[v1, v2, v3] 25 (0, 0) 2
theorem exec_rows3 (ρ : Operand → Value) (x y z : Operand) (t : TypeId) (w : World) (a1 a2 a3 : Option Addr) (n1 c1 n2 c2 n3 c3 : Nat) (hx : ρ x = .slice a1 n1 c1) (hy : ρ y = .slice a2 n2 c2) (hz : ρ z = .slice a3 n3 c3) :
    (execOp ρ (mkOp (.buildSlice 22 3 #[(0, x), (1, y), (2, z)]) t)).run Tryd.prog w = .ok (.value (.slice (some ⟨w.heap.size, 0, none⟩) 3 3)) (w.alloc (.cells #[.slice a1 n1 c1, .slice a2 n2 c2, .slice a3 n3 c3] 25)) := by
  simp only [execOp, mkOp, List.map_toArray, List.map_cons, List.map_nil, hx, hy, hz]
  go_simp
theorem stp_rows3 {ops : Array Oper} {Q : Exit → Act → World → Prop} {i : Nat} {r : Stp} {a : Act} {w : World} {o : Oper} (d : Nat) (x y z : Operand) (t : TypeId) (ho : ops[i]? = some o) (hd : o.dst = some d) (hop : o.op = .buildSlice 22 3 #[(0, x), (1, y), (2, z)]) (ht : o.type = t)
    (hw : Region.wanted o (yielded ops a.tmps) = true) {v1 v2 v3 : Value} {l1 l2 l3 : List UInt8} (h1 : Bs w v1 l1) (h2 : Bs w v2 l2) (h3 : Bs w v3 l3) (hx : a.eval x = v1) (hy : a.eval y = v2) (hz : a.eval z = v3)
    (h : ∀ w' v, Bss w' v [l1, l2, l3] → Below w.heap.size w w' → LinT Tryd.prog ops Q r (a.put (some d) v) w') : wpOp Tryd.prog ops Q i (fun a' w' => Below w.heap.size w w' ∧ LinT Tryd.prog ops Q r a' w') a w := by
  have h1' := h1
  have h2' := h2
  have h3' := h3
  obtain ⟨a1, c1, rfl, _⟩ := h1'
  obtain ⟨a2, c2, rfl, _⟩ := h2'
  obtain ⟨a3, c3, rfl, _⟩ := h3'
  have hb : Below w.heap.size w (w.alloc (.cells #[.slice a1 l1.length c1, .slice a2 l2.length c2, .slice a3 l3.length c3] 25)) := (Below.refl _ _).alloc (Nat.le_refl _) _
  exact stp_made d _ t _ _ ho hd hop ht hw (exec_rows3 a.eval x y z t w a1 a2 a3 _ c1 _ c2 _ c3 hx hy hz) hb (h _ _ (Bss.three h1 h2 h3 rfl) hb)
end Go.Proofs.YtmfogngfdgpahaaDoor
