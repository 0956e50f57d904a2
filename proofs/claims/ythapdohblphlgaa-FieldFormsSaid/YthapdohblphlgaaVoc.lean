/- The words in which the contracts of this seat speak of byte slices: what a slice value reads as, and that it goes on to read so behind writes elsewhere. -/
import Derived.Test.YthapdohblphlgaaChecked
import Derived.WalkKit
import Derived.Below
import Derived.Deep.OwnRows
import Derived.Lib.Hide
import Derived.Laws.IdiomStrings
import Derived.Laws.BytesString
import Derived.Lib.BufferRead
namespace Go.Proofs.Ythapdohblphlgaa
open Go.RowKit Go.Deep

/-- The slice value v reads as the bytes l in w. -/
def Bs (w : World) (v : Value) (l : List UInt8) : Prop :=
  ∃ (a : Option Addr) (cap : Nat), v = .slice a l.length cap ∧ l.length ≤ cap ∧ cap ≤ maxLen ∧ (a = none → cap = 0) ∧
    ∀ x, a = some x → ∀ i (h : i < l.length), x.block < w.heap.size ∧ w.cell? (x.add i) = some (.int .u8 ((l[i]).toNat : Int))

theorem Bs.nil (w : World) : Bs w (.slice none 0 0) [] := ⟨none, 0, rfl, by simp, by simp [maxLen], (fun _ => rfl), (fun x h => by cases h)⟩

theorem add_block (x : Addr) (i : Nat) : (x.add i).block = x.block := by unfold Addr.add; split <;> rfl

theorem add_eq (b off i : Nat) : (⟨b, off, none⟩ : Addr).add i = ⟨b, off + i, none⟩ := by
  unfold Addr.add; split <;> simp_all

theorem Bs.below {w w' : World} {v : Value} {l : List UInt8} {B : Nat} (h : Bs w v l) (hb : Below B w w') (hB : w.heap.size ≤ B) : Bs w' v l := by
  obtain ⟨a, cap, rfl, h1, h2, h3, h4⟩ := h
  refine ⟨a, cap, rfl, h1, h2, h3, fun x hx i hi => ?_⟩
  obtain ⟨g1, g2⟩ := h4 x hx i hi
  exact ⟨Nat.lt_of_lt_of_le g1 hb.size, (hb.cell (p := x.add i) (by rw [add_block]; omega)).trans g2⟩

/-- A row of the call's own, read as bytes. -/
theorem Bs.of_rowIs {w : World} {b cap : Nat} {t : TypeId} {f : Nat → Value} (h : w.rowIs b t cap f) (l : List UInt8) (hl : l.length ≤ cap) (hm : cap ≤ maxLen)
    (hf : ∀ i (hi : i < l.length), f i = .int .u8 ((l[i]).toNat : Int)) : Bs w (.slice (some ⟨b, 0, none⟩) l.length cap) l := by
  refine ⟨_, cap, rfl, hl, hm, (fun h => by cases h), fun x hx i hi => ?_⟩
  cases hx
  refine ⟨h.lt, ?_⟩
  have := h.cell (i := i) (by omega)
  rw [hf i hi] at this
  rw [add_eq]; simpa using this

/-- The slice written out, its length a name of its own. -/
theorem Bs.shape {w : World} {v : Value} {l : List UInt8} (h : Bs w v l) : ∃ a n cap, v = .slice a n cap ∧ l.length = n ∧ n ≤ cap ∧ cap ≤ 9223372036854775807 ∧ Bs w (.slice a n cap) l := by
  have h0 := h
  obtain ⟨a, cap, rfl, h1, h2, _⟩ := h
  unfold maxLen at h2
  exact ⟨a, _, cap, rfl, rfl, h1, by omega, h0⟩

/-- What the walk wants of a slice that is not empty: where it begins, and each of its cells. -/
theorem Bs.open_cons {w : World} {v : Value} {l : List UInt8} (h : Bs w v l) (hne : 0 < l.length) :
    ∃ b off cap, v = .slice (some ⟨b, off, none⟩) l.length cap ∧ l.length ≤ cap ∧ cap ≤ maxLen ∧ b < w.heap.size ∧ ∀ i (h : i < l.length), w.cell? ⟨b, off + i, none⟩ = some (.int .u8 ((l[i]).toNat : Int)) := by
  obtain ⟨a, cap, rfl, h1, h2, h3, h4⟩ := h
  cases a with
  | none => have := h3 rfl; omega
  | some x =>
    obtain ⟨b, off, spot⟩ := x
    obtain ⟨g1, g2⟩ := h4 _ rfl 0 hne
    have hs : spot = none := by simpa [Addr.add] using World.cell?_spot g2
    subst hs
    exact ⟨b, off, cap, rfl, h1, h2, g1, fun i hi => by rw [← add_eq]; exact (h4 _ rfl i hi).2⟩

theorem Bs.open_n {w : World} {v : Value} {l : List UInt8} {n : Nat} (h : Bs w v l) (hl : l.length = n) (hne : 0 < n) :
    ∃ b off cap, v = .slice (some ⟨b, off, none⟩) n cap ∧ n ≤ cap ∧ cap ≤ maxLen ∧ b < w.heap.size ∧ ∀ i (h : i < l.length), w.cell? ⟨b, off + i, none⟩ = some (.int .u8 ((l[i]).toNat : Int)) := by
  subst hl; exact h.open_cons hne

/-- n in size bytes, the greatest first; the least first. -/
def bigB (n size : Nat) : List UInt8 := (List.range size).map fun i => UInt8.ofNat (n / 2 ^ (8 * (size - 1 - i)))
def litB (n size : Nat) : List UInt8 := (List.range size).map fun i => UInt8.ofNat (n / 2 ^ (8 * i))
theorem bigB_length (n size : Nat) : (bigB n size).length = size := by simp [bigB]
theorem litB_length (n size : Nat) : (litB n size).length = size := by simp [litB]

theorem Try.info5 : (Try.prog.info? 5).map (fun i => (i.zero, i.size, i.bytes)) = some (some (.int .u8 0), 1, 1) := by kernel_rfl

/-! ### Bounds out of 'wf'. -/
theorem bd_i64 {n : Int} (h : (Lit.int .i64 n).wf = true) : -9223372036854775808 ≤ n ∧ n ≤ 9223372036854775807 := by
  have hmin : IntKind.i64.min = -9223372036854775808 := rfl
  have hmax : IntKind.i64.max = 9223372036854775807 := rfl
  simp only [Lit.wf, Bool.and_eq_true, decide_eq_true_eq] at h
  omega
theorem bd_u64 {n : Int} (h : (Lit.int .u64 n).wf = true) : 0 ≤ n ∧ n ≤ 18446744073709551615 := by
  have hmin : IntKind.u64.min = 0 := rfl
  have hmax : IntKind.u64.max = 18446744073709551615 := rfl
  simp only [Lit.wf, Bool.and_eq_true, decide_eq_true_eq] at h
  omega
theorem bd_u32 {n : Int} (h : (Lit.int .u32 n).wf = true) : 0 ≤ n ∧ n ≤ 4294967295 := by
  have hmin : IntKind.u32.min = 0 := rfl
  have hmax : IntKind.u32.max = 4294967295 := rfl
  simp only [Lit.wf, Bool.and_eq_true, decide_eq_true_eq] at h
  omega
theorem bd_u8 {n : Int} (h : (Lit.int .u8 n).wf = true) : 0 ≤ n ∧ n ≤ 255 := by
  have hmin : IntKind.u8.min = 0 := rfl
  have hmax : IntKind.u8.max = 255 := rfl
  simp only [Lit.wf, Bool.and_eq_true, decide_eq_true_eq] at h
  omega
end Go.Proofs.Ythapdohblphlgaa
