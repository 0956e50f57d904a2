/- What the document's sums need: a slice with both bounds, words out of a slice, sums of words. -/
import Derived.Test.YtladojcbbhphfaaTab
import Derived.Test.YtladojcbbhphfaaSum512
import Derived.Test.YtladojcbbhphfaaGrow
import Derived.StillTailTactics
namespace Go.Proofs.Ytladojcbbhphfaa
open Go.RowKit Go.Deep

theorem numB_ext (l l' : List UInt8) : ∀ k, (∀ i, i < k → l.getD i 0 = l'.getD i 0) → numB l k = numB l' k
  | 0, _ => rfl
  | k + 1, h => by
    rw [numB, numB, numB_ext l l' k (fun i hi => h i (by omega))]
    unfold byteAt
    rw [h k (by omega)]
/-- A word of a block, cut out of the whole. -/
theorem numB_cut (M : List UInt8) (p t b B : Nat) (h : t + b ≤ B) : numB ((M.drop (p + t)).take b) b = numB (((M.drop p).take B).drop t) b := by
  refine numB_ext _ _ _ fun i hi => ?_
  rw [List.getD_eq_getElem?_getD, List.getD_eq_getElem?_getD, List.getElem?_take_of_lt hi, List.getElem?_drop, List.getElem?_drop, List.getElem?_take_of_lt (by omega), List.getElem?_drop]
  congr 2
  omega

/-- The document's noughts: so many that the count fits. -/
theorem room64 (n z : Nat) (hz : z ≤ endRoom n 64 - 9) : (n + 1 + z) % 64 = 56 ↔ z = endRoom n 64 - 9 := by
  unfold endRoom at *; split at hz <;> split <;> omega
theorem room128 (n z : Nat) (hz : z ≤ endRoom n 128 - 17) : (n + 1 + z) % 128 = 112 ↔ z = endRoom n 128 - 17 := by
  unfold endRoom at *; split at hz <;> split <;> omega
theorem pad_blocks {n : Nat} (k : Kind n) (l : List UInt8) (hk : 64 ≤ k.block) (h9 : k.block = 64 ∨ k.block = 128) : (k.pad l).length = k.block * ((k.pad l).length / k.block) := by
  have h1 : (k.pad l).length = l.length + endRoom l.length k.block := by
    unfold Kind.pad
    rw [List.length_append, endOf_length _ _ hk]
  have h2 : (l.length + endRoom l.length k.block) % k.block = 0 := by
    unfold endRoom
    rcases h9 with h | h <;> rw [h] <;> split <;> omega
  rw [h1]
  have := Nat.div_add_mod (l.length + endRoom l.length k.block) k.block
  omega
theorem ref_add4_32 (a b c d : BitVec 32) : ((((d.toNat : Int) + c.toNat) % 4294967296 + b.toNat) % 4294967296 + a.toNat) % 4294967296 = ((a + b + c + d).toNat : Int) := by
  simp only [BitVec.toNat_add]; omega
theorem ref_add4_64 (a b c d : BitVec 64) : IntKind.u64.wrap (IntKind.u64.wrap (IntKind.u64.wrap ((d.toNat : Int) + c.toNat) + b.toNat) + a.toNat) = ((a + b + c + d).toNat : Int) := by
  rw [wadd64, wadd64, wadd64]
  have : d + c + b + a = a + b + c + d := by
    rw [BitVec.add_comm _ a, BitVec.add_comm _ b, BitVec.add_comm d c, ← BitVec.add_assoc, ← BitVec.add_assoc]
  rw [this]
theorem ref_t32 (W h t c : BitVec 32) (j : Nat) : (((h.toNat : Int) + t.toNat + c.toNat + ((K64 j).toNat : Int) / 4294967296) % 4294967296 + W.toNat) % 4294967296 = ((W + (h + t + c + K32 j)).toNat : Int) := by
  rw [K32_val']; simp only [BitVec.toNat_add]; omega
theorem ref_t64 (W h t c : BitVec 64) (j : Nat) : IntKind.u64.wrap (IntKind.u64.wrap (IntKind.u64.wrap (IntKind.u64.wrap ((h.toNat : Int) + t.toNat) + c.toNat) + (K64 j).toNat) + W.toNat) = ((W + (h + t + c + K64 j)).toNat : Int) := by
  simp only [wadd64]
  rw [BitVec.add_comm (h + t + c + K64 j) W]
theorem ref_u32 (g m : BitVec 32) : ((g.toNat : Int) + m.toNat) % 4294967296 = ((g + m).toNat : Int) := add32 g m
theorem ref_u64 (g m : BitVec 64) : IntKind.u64.wrap ((g.toNat : Int) + m.toNat) = ((g + m).toNat : Int) := add64 g m
theorem tri_val32 (x : BitVec 32) (i j k : Nat) : bits .xor .u32 (bits .xor .u32 (rotr x i).toNat (rotr x j).toNat) (rotr x k).toNat = ((tri x i j k).toNat : Int) := by
  rw [xor32, xor32]; rfl
theorem chz_val32 (x y z : BitVec 32) : bits .xor .u32 (bits .and .u32 x.toNat y.toNat) (bits .and .u32 (bits .xor .u32 IntKind.u32.max x.toNat) z.toNat) = ((chz x y z).toNat : Int) := by
  rw [not32, and32, and32, xor32]; rfl
theorem maj_val32 (x y z : BitVec 32) : bits .xor .u32 (bits .xor .u32 (bits .and .u32 x.toNat y.toNat) (bits .and .u32 x.toNat z.toNat)) (bits .and .u32 y.toNat z.toNat) = ((maj x y z).toNat : Int) := by
  rw [and32, and32, and32, xor32, xor32]; rfl
def sel32 (a b c d e f g h : Int) : Nat → Value
  | 0 => .int .u32 a
  | 1 => .int .u32 b
  | 2 => .int .u32 c
  | 3 => .int .u32 d
  | 4 => .int .u32 e
  | 5 => .int .u32 f
  | 6 => .int .u32 g
  | _ => .int .u32 h
theorem built8_32 (a b c d e f g h : Int) : Try.prog.built 54 [(0, .int .u32 a), (1, .int .u32 b), (2, .int .u32 c), (3, .int .u32 d), (4, .int .u32 e), (5, .int .u32 f), (6, .int .u32 g), (7, .int .u32 h)] = some (arrOf 8 (sel32 a b c d e f g h)) := by kernel_rfl
theorem sel32_one (a b c d e f g h : Int) : ∀ j, j < 8 → (sel32 a b c d e f g h j).oneCell' = true := fun j _ => by
  unfold sel32; split <;> rfl
theorem sel32_state (s : S8 32) (a b c d e f g h : Int) (h0 : a = (s.a.toNat : Int)) (h1 : b = (s.b.toNat : Int)) (h2 : c = (s.c.toNat : Int)) (h3 : d = (s.d.toNat : Int)) (h4 : e = (s.e.toNat : Int)) (h5 : f = (s.f.toNat : Int)) (h6 : g = (s.g.toNat : Int)) (h7 : h = (s.h.toNat : Int)) (i : Nat) (_hi : i < 8) :
    sel32 a b c d e f g h i = w32 s.at i := by
  subst h0 h1 h2 h3 h4 h5 h6 h7
  match i with
  | 0 => rfl
  | 1 => rfl
  | 2 => rfl
  | 3 => rfl
  | 4 => rfl
  | 5 => rfl
  | 6 => rfl
  | _ + 7 => rfl
theorem tri_val64 (x : BitVec 64) (i j k : Nat) : bits .xor .u64 (bits .xor .u64 (rotr x i).toNat (rotr x j).toNat) (rotr x k).toNat = ((tri x i j k).toNat : Int) := by
  rw [xor64, xor64]; rfl
theorem chz_val64 (x y z : BitVec 64) : bits .xor .u64 (bits .and .u64 x.toNat y.toNat) (bits .and .u64 (bits .xor .u64 IntKind.u64.max x.toNat) z.toNat) = ((chz x y z).toNat : Int) := by
  rw [not64, and64, and64, xor64]; rfl
theorem maj_val64 (x y z : BitVec 64) : bits .xor .u64 (bits .xor .u64 (bits .and .u64 x.toNat y.toNat) (bits .and .u64 x.toNat z.toNat)) (bits .and .u64 y.toNat z.toNat) = ((maj x y z).toNat : Int) := by
  rw [and64, and64, and64, xor64, xor64]; rfl
def sel64 (a b c d e f g h : Int) : Nat → Value
  | 0 => .int .u64 a
  | 1 => .int .u64 b
  | 2 => .int .u64 c
  | 3 => .int .u64 d
  | 4 => .int .u64 e
  | 5 => .int .u64 f
  | 6 => .int .u64 g
  | _ => .int .u64 h
theorem built8_64 (a b c d e f g h : Int) : Try.prog.built 51 [(0, .int .u64 a), (1, .int .u64 b), (2, .int .u64 c), (3, .int .u64 d), (4, .int .u64 e), (5, .int .u64 f), (6, .int .u64 g), (7, .int .u64 h)] = some (arrOf 8 (sel64 a b c d e f g h)) := by kernel_rfl
theorem sel64_one (a b c d e f g h : Int) : ∀ j, j < 8 → (sel64 a b c d e f g h j).oneCell' = true := fun j _ => by
  unfold sel64; split <;> rfl
theorem sel64_state (s : S8 64) (a b c d e f g h : Int) (h0 : a = (s.a.toNat : Int)) (h1 : b = (s.b.toNat : Int)) (h2 : c = (s.c.toNat : Int)) (h3 : d = (s.d.toNat : Int)) (h4 : e = (s.e.toNat : Int)) (h5 : f = (s.f.toNat : Int)) (h6 : g = (s.g.toNat : Int)) (h7 : h = (s.h.toNat : Int)) (i : Nat) (_hi : i < 8) :
    sel64 a b c d e f g h i = w64 s.at i := by
  subst h0 h1 h2 h3 h4 h5 h6 h7
  match i with
  | 0 => rfl
  | 1 => rfl
  | 2 => rfl
  | 3 => rfl
  | 4 => rfl
  | 5 => rfl
  | 6 => rfl
  | _ + 7 => rfl
end Go.Proofs.Ytladojcbbhphfaa
