/- What the document's sums need: a slice with both bounds, words out of a slice, sums of words. -/
import Derived.Test.YtgfgnjlbghakfaaTab
import Derived.Test.YtgfgnjlbghakfaaSum512
import Derived.StillTailTactics
namespace Go.Proofs.Ytgfgnjlbghakfaa
open Go.RowKit Go.Deep

/-- 's[j:h]'. -/
theorem run_sliceCut {P : Program} (w : World) (ty elem : TypeId) (a : Option Addr) (n cap j h : Nat) (k k' : IntKind) (hu : P.underlying ty = some (.slice elem)) (hi : (P.info? elem).map (fun i => i.size) = some 1) (hj : j ≤ h) (hh : h ≤ cap) :
    (Instr.sliceAt ty (.slice a n cap) (some (.int k (j : Int))) (some (.int k' (h : Int))) none).run P w = .ok (.slice (if cap = j then a else a.map (·.add j)) (h - j) (cap - j)) w := by
  cases hq : P.info? elem with
  | none => simp [hq] at hi
  | some i =>
    have hs : i.size = 1 := by simpa [hq] using hi
    simp [Instr.sliceAt, run_underlying hu w, Instr.slice, Instr.sliceBounds, run_bound_in w k j h _ hj, run_bound_in w k' h cap _ hh, sizeOf, typeInfo, hq, hs, Result.andThen]
theorem wpList_bsCut {ops : Array Oper} {rest : List Oper} {o : Oper} {a : Act} {w : World} {Q : Exit → Act → World → Prop} (hgd : o.guard = none) (x lo hi : Operand) (ho : o.op = .slice 25 x (some lo) (some hi) none) {ad : Option Addr} {n cap : Nat} {l : List UInt8} (hB : Bs w (.slice ad n cap) l) (j h : Nat) {k k' : IntKind} {i i' : Int}
    (hx : a.eval x = .slice ad n cap) (hlo : a.eval lo = .int k i) (hij : i = (j : Int)) (hhi : a.eval hi = .int k' i') (hih : i' = (h : Int)) (hj : j ≤ h) (hh : h ≤ n) (n' : Nat) (hn' : n' = h - j)
    (H : ∀ ad', Bs w (.slice ad' n' (cap - j)) ((l.drop j).take n') → wpList Try.prog ops Q rest (a.put o.dst (.slice ad' n' (cap - j))) w) : wpList Try.prog ops Q (o :: rest) a w := by
  subst hn'
  have hB0 := hB
  obtain ⟨a', cap', he, h1, h2, h3, h4⟩ := hB0
  have hnc : n ≤ cap := by cases he; exact h1
  refine wpList_value hgd (.slice (if cap = j then ad else ad.map (·.add j)) (h - j) (cap - j)) (by simp [execOp, ho, hx, hlo, hij, hhi, hih, run_sliceCut (P := Try.prog) w 25 5 ad n cap j h k k' Try.underlying25 (by kernel_rfl) hj (by omega), Result.andThen]) (H _ ?_)
  exact (hB.drop (by omega)).take (by omega)

theorem numB_ext (l l' : List UInt8) : ∀ k, (∀ i, i < k → l.getD i 0 = l'.getD i 0) → numB l k = numB l' k
  | 0, _ => rfl
  | k + 1, h => by
    rw [numB, numB, numB_ext l l' k (fun i hi => h i (by omega))]
    unfold byteAt
    rw [h k (by omega)]
/-- A word of a block, cut out of the whole. -/
theorem numB_cut (M : List UInt8) (p t b B : Nat) (h : t + b ≤ B) : numB ((M.drop (p + t)).take b) b = numB (((M.drop p).take B).drop t) b := by
  refine numB_ext _ _ _ fun i hi => ?_
  rw [List.getD_eq_getElem?_getD, List.getD_eq_getElem?_getD, List.getElem?_take_of_lt hi, List.getElem?_drop, List.getElem?_drop, List.getElem?_take_of_lt (by omega), List.getElem?_drop]
  congr 2
  omega

theorem gb_new {w0 w w' : World} {b : Option Nat} (h : w0.grownBy w b) (hb : Below w.heap.size w w') : w0.grownBy w' b :=
  ⟨hb.os.trans h.os, hb.tape.trans h.tape, hb.output.trans h.output, Nat.le_trans h.size hb.size, fun k hk hn => (hb.block k (by have := h.size; omega)).trans (h.block k hk hn)⟩
theorem gb_alloc {w0 w : World} {b : Option Nat} (h : w0.grownBy w b) (o : Obj) : w0.grownBy (w.alloc o) b := gb_new h ((Below.refl _ _).alloc (Nat.le_refl _) o)
theorem gb_drew {w0 w : World} {b : Option Nat} (h : w0.grownBy w b) (n : Nat) : w0.grownBy (w.drewN n) b := gb_new h (below_drewN (Below.refl _ _) n)
theorem gb_set {w0 w : World} {b : Option Nat} (h : w0.grownBy w b) {p : Addr} (hp : w0.heap.size ≤ p.block) (v : Value) : w0.grownBy (w.setCell p v) b :=
  ⟨h.os, h.tape, h.output, by rw [World.size_setCell]; exact h.size, fun k hk hn => (Below.heap_setCell _ _ _ _ (by omega)).trans (h.block k hk hn)⟩
theorem gb_setb {w0 w : World} {b i : Nat} (h : w0.grownBy w (some b)) (v : Value) : w0.grownBy (w.setCell ⟨b, i, none⟩ v) (some b) := grownBy_trans h (grownBy_set _ _ _ _)
theorem gb_row {w0 w w' : World} {b : Option Nat} {r : Nat} (h : w0.grownBy w b) (k : w.grownBy w' (some r)) (hr : w0.heap.size ≤ r) : w0.grownBy w' b :=
  ⟨k.os.trans h.os, k.tape.trans h.tape, k.output.trans h.output, Nat.le_trans h.size k.size, fun i hi hn => (k.block i (by have := h.size; omega) (fun e => by have := Option.some.inj e; omega)).trans (h.block i hi hn)⟩
theorem gb_bs {w w' : World} {v : Value} {l : List UInt8} {b : Nat} (h : Bs w v l) (hg : w.grownBy w' (some b)) (hb : Away v b) : Bs w' v l := h.touched (Tch.right (x := b) hg) hb hb
theorem gb_rowIs {w w' : World} {b r m : Nat} {t : TypeId} {f : Nat → Value} (h : w.rowIs r t m f) (hg : w.grownBy w' (some b)) (hb : r ≠ b) : w'.rowIs r t m f := h.of_block (hg.block _ h.lt (fun e => hb (Option.some.inj e)))
theorem gb_below {w0 w w' : World} {b B : Nat} (h : Below B w0 w) (hg : w.grownBy w' (some b)) (hB : B ≤ w.heap.size) (hb : B ≤ b) : Below B w0 w' := h.grown hg hB (by intro k hk; cases hk; exact hb)

def lenOf : Value → Nat | .slice _ n _ => n | _ => 0
theorem Owns.empty (w : World) : Owns (w.alloc (.cells #[] 5)) w.heap.size (.slice (some ⟨w.heap.size, 0, none⟩) 0 0) [] :=
  World.ownsRow_lit w (base := w.heap.size) #[] 0 (Nat.le_refl _) (by unfold maxLen; omega) rfl
theorem Owns.shape {w : World} {base : Nat} {v : Value} {l : List UInt8} (h : Owns w base v l) : ∃ a cap, v = .slice a l.length cap := by
  obtain ⟨a, cap, rfl, _⟩ := h.bs
  exact ⟨a, cap, rfl⟩
theorem Owns.away {w : World} {base : Nat} {v : Value} {l : List UInt8} (h : Owns w base v l) {b : Nat} (hb : b < base) : Away v b := by
  intro x n c he _
  obtain ⟨_, h2⟩ := h
  rcases h2 with ⟨rfl, _⟩ | ⟨g, cap, cur, rfl, hg, _⟩
  · cases he
  · cases he
    show g ≠ b
    omega
/-- The document's noughts: so many that the count fits. -/
theorem room64 (n z : Nat) (hz : z ≤ endRoom n 64 - 9) : (n + 1 + z) % 64 = 56 ↔ z = endRoom n 64 - 9 := by
  unfold endRoom at *; split at hz <;> split <;> omega
theorem room128 (n z : Nat) (hz : z ≤ endRoom n 128 - 17) : (n + 1 + z) % 128 = 112 ↔ z = endRoom n 128 - 17 := by
  unfold endRoom at *; split at hz <;> split <;> omega
theorem pad_blocks {n : Nat} (k : Kind n) (l : List UInt8) (hk : 64 ≤ k.block) (h9 : k.block = 64 ∨ k.block = 128) : (k.pad l).length = k.block * ((k.pad l).length / k.block) := by
  have h1 : (k.pad l).length = l.length + endRoom l.length k.block := by
    unfold Kind.pad
    rw [List.length_append, endOf_length _ _ hk]
  have h2 : (l.length + endRoom l.length k.block) % k.block = 0 := by
    unfold endRoom
    rcases h9 with h | h <;> rw [h] <;> split <;> omega
  rw [h1]
  have := Nat.div_add_mod (l.length + endRoom l.length k.block) k.block
  omega
theorem ref_add4_32 (a b c d : BitVec 32) : ((((d.toNat : Int) + c.toNat) % 4294967296 + b.toNat) % 4294967296 + a.toNat) % 4294967296 = ((a + b + c + d).toNat : Int) := by
  simp only [BitVec.toNat_add]; omega
theorem ref_add4_64 (a b c d : BitVec 64) : IntKind.u64.wrap (IntKind.u64.wrap (IntKind.u64.wrap ((d.toNat : Int) + c.toNat) + b.toNat) + a.toNat) = ((a + b + c + d).toNat : Int) := by
  rw [wadd64, wadd64, wadd64]
  have : d + c + b + a = a + b + c + d := by
    rw [BitVec.add_comm _ a, BitVec.add_comm _ b, BitVec.add_comm d c, ← BitVec.add_assoc, ← BitVec.add_assoc]
  rw [this]
/-- The code of the block of that number. -/
def findBlock (id : Nat) : Code → Option Code
  | .block i c => if i = id then some c else findBlock id c
  | .seq a b => match findBlock id a with
    | some c => some c
    | none => findBlock id b
  | .loop c => findBlock id c
  | .scope c => findBlock id c
  | .cond _ a b => match findBlock id a with
    | some c => some c
    | none => findBlock id b
  | _ => none
noncomputable def codeAt (id : Nat) (f : Func) : Code := (f.body.bind (findBlock id)).getD .skip
theorem ref_t32 (W h t c : BitVec 32) (j : Nat) : (((h.toNat : Int) + t.toNat + c.toNat + ((K64 j).toNat : Int) / 4294967296) % 4294967296 + W.toNat) % 4294967296 = ((W + (h + t + c + K32 j)).toNat : Int) := by
  rw [K32_val']; simp only [BitVec.toNat_add]; omega
theorem ref_t64 (W h t c : BitVec 64) (j : Nat) : IntKind.u64.wrap (IntKind.u64.wrap (IntKind.u64.wrap (IntKind.u64.wrap ((h.toNat : Int) + t.toNat) + c.toNat) + (K64 j).toNat) + W.toNat) = ((W + (h + t + c + K64 j)).toNat : Int) := by
  simp only [wadd64]
  rw [BitVec.add_comm (h + t + c + K64 j) W]
theorem ref_u32 (g m : BitVec 32) : ((g.toNat : Int) + m.toNat) % 4294967296 = ((g + m).toNat : Int) := add32 g m
theorem ref_u64 (g m : BitVec 64) : IntKind.u64.wrap ((g.toNat : Int) + m.toNat) = ((g + m).toNat : Int) := add64 g m
theorem tri_val32 (x : BitVec 32) (i j k : Nat) : bits .xor .u32 (bits .xor .u32 (rotr x i).toNat (rotr x j).toNat) (rotr x k).toNat = ((tri x i j k).toNat : Int) := by
  rw [xor32, xor32]; rfl
theorem chz_val32 (x y z : BitVec 32) : bits .xor .u32 (bits .and .u32 x.toNat y.toNat) (bits .and .u32 (bits .xor .u32 IntKind.u32.max x.toNat) z.toNat) = ((chz x y z).toNat : Int) := by
  rw [not32, and32, and32, xor32]; rfl
theorem maj_val32 (x y z : BitVec 32) : bits .xor .u32 (bits .xor .u32 (bits .and .u32 x.toNat y.toNat) (bits .and .u32 x.toNat z.toNat)) (bits .and .u32 y.toNat z.toNat) = ((maj x y z).toNat : Int) := by
  rw [and32, and32, and32, xor32, xor32]; rfl
def sel32 (a b c d e f g h : Int) : Nat → Value
  | 0 => .int .u32 a
  | 1 => .int .u32 b
  | 2 => .int .u32 c
  | 3 => .int .u32 d
  | 4 => .int .u32 e
  | 5 => .int .u32 f
  | 6 => .int .u32 g
  | _ => .int .u32 h
theorem built8_32 (a b c d e f g h : Int) : Try.prog.built 31 [(0, .int .u32 a), (1, .int .u32 b), (2, .int .u32 c), (3, .int .u32 d), (4, .int .u32 e), (5, .int .u32 f), (6, .int .u32 g), (7, .int .u32 h)] = some (arrOf 8 (sel32 a b c d e f g h)) := by kernel_rfl
theorem sel32_one (a b c d e f g h : Int) : ∀ j, j < 8 → (sel32 a b c d e f g h j).oneCell' = true := fun j _ => by
  unfold sel32; split <;> rfl
theorem sel32_state (s : S8 32) (a b c d e f g h : Int) (h0 : a = (s.a.toNat : Int)) (h1 : b = (s.b.toNat : Int)) (h2 : c = (s.c.toNat : Int)) (h3 : d = (s.d.toNat : Int)) (h4 : e = (s.e.toNat : Int)) (h5 : f = (s.f.toNat : Int)) (h6 : g = (s.g.toNat : Int)) (h7 : h = (s.h.toNat : Int)) (i : Nat) (_hi : i < 8) :
    sel32 a b c d e f g h i = w32 s.at i := by
  subst h0 h1 h2 h3 h4 h5 h6 h7
  match i with
  | 0 => rfl
  | 1 => rfl
  | 2 => rfl
  | 3 => rfl
  | 4 => rfl
  | 5 => rfl
  | 6 => rfl
  | _ + 7 => rfl
theorem tri_val64 (x : BitVec 64) (i j k : Nat) : bits .xor .u64 (bits .xor .u64 (rotr x i).toNat (rotr x j).toNat) (rotr x k).toNat = ((tri x i j k).toNat : Int) := by
  rw [xor64, xor64]; rfl
theorem chz_val64 (x y z : BitVec 64) : bits .xor .u64 (bits .and .u64 x.toNat y.toNat) (bits .and .u64 (bits .xor .u64 IntKind.u64.max x.toNat) z.toNat) = ((chz x y z).toNat : Int) := by
  rw [not64, and64, and64, xor64]; rfl
theorem maj_val64 (x y z : BitVec 64) : bits .xor .u64 (bits .xor .u64 (bits .and .u64 x.toNat y.toNat) (bits .and .u64 x.toNat z.toNat)) (bits .and .u64 y.toNat z.toNat) = ((maj x y z).toNat : Int) := by
  rw [and64, and64, and64, xor64, xor64]; rfl
def sel64 (a b c d e f g h : Int) : Nat → Value
  | 0 => .int .u64 a
  | 1 => .int .u64 b
  | 2 => .int .u64 c
  | 3 => .int .u64 d
  | 4 => .int .u64 e
  | 5 => .int .u64 f
  | 6 => .int .u64 g
  | _ => .int .u64 h
theorem built8_64 (a b c d e f g h : Int) : Try.prog.built 48 [(0, .int .u64 a), (1, .int .u64 b), (2, .int .u64 c), (3, .int .u64 d), (4, .int .u64 e), (5, .int .u64 f), (6, .int .u64 g), (7, .int .u64 h)] = some (arrOf 8 (sel64 a b c d e f g h)) := by kernel_rfl
theorem sel64_one (a b c d e f g h : Int) : ∀ j, j < 8 → (sel64 a b c d e f g h j).oneCell' = true := fun j _ => by
  unfold sel64; split <;> rfl
theorem sel64_state (s : S8 64) (a b c d e f g h : Int) (h0 : a = (s.a.toNat : Int)) (h1 : b = (s.b.toNat : Int)) (h2 : c = (s.c.toNat : Int)) (h3 : d = (s.d.toNat : Int)) (h4 : e = (s.e.toNat : Int)) (h5 : f = (s.f.toNat : Int)) (h6 : g = (s.g.toNat : Int)) (h7 : h = (s.h.toNat : Int)) (i : Nat) (_hi : i < 8) :
    sel64 a b c d e f g h i = w64 s.at i := by
  subst h0 h1 h2 h3 h4 h5 h6 h7
  match i with
  | 0 => rfl
  | 1 => rfl
  | 2 => rfl
  | 3 => rfl
  | 4 => rfl
  | 5 => rfl
  | 6 => rfl
  | _ + 7 => rfl
end Go.Proofs.Ytgfgnjlbghakfaa
