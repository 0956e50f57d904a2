/- The program's HKDF: stretch, Expand, Derive. -/
import Derived.Test.YtladojcbbhphfaaMacA
namespace Go.Proofs.Ytladojcbbhphfaa
open Go.RowKit Go.Deep

theorem Bss.three {w : World} {v1 v2 v3 : Value} {l1 l2 l3 : List UInt8} (h1 : Bs w v1 l1) (h2 : Bs w v2 l2) (h3 : Bs w v3 l3) {n : Nat} (hn : w.heap.size = n) : Bss (w.alloc (.cells #[v1, v2, v3] 22)) (.slice (some ⟨n, 0, none⟩) 3 3) [l1, l2, l3] := by
  subst hn
  have hb : Below w.heap.size w (w.alloc (.cells #[v1, v2, v3] 22)) := (Below.refl _ _).alloc (Nat.le_refl _) _
  refine ⟨_, 3, rfl, by simp, by simp [maxLen], (fun h => by cases h), fun x hx i hi => ?_⟩
  cases hx
  match i, hi with
  | 0, _ =>
    refine ⟨by simp, v1, ?_, h1.below hb (Nat.le_refl _)⟩
    rw [add_eq]
    exact World.cell?_alloc_mark w #[v1, v2, v3] 22 (0, 0) 0
  | 1, _ =>
    refine ⟨by simp, v2, ?_, h2.below hb (Nat.le_refl _)⟩
    rw [add_eq]
    exact World.cell?_alloc_mark w #[v1, v2, v3] 22 (0, 0) 1
  | 2, _ =>
    refine ⟨by simp, v3, ?_, h3.below hb (Nat.le_refl _)⟩
    rw [add_eq]
    exact World.cell?_alloc_mark w #[v1, v2, v3] 22 (0, 0) 2

/-- 's[:h]'. -/
theorem run_bsTo {w : World} {ad : Option Addr} {n cap : Nat} {l : List UInt8} (hB : Bs w (.slice ad n cap) l) (h : Nat) (hh : h ≤ n) (h0 : 0 < n) :
    (Instr.sliceAt 22 (.slice ad n cap) none (some (.int .i64 (h : Int))) none).run Try.prog w = .ok (.slice ad h cap) w := by
  obtain ⟨a', cap', he, h1, h2, h3, h4⟩ := hB
  cases he
  cases hq : Try.prog.info? 5 with
  | none =>
    have := Try.info5
    simp [hq] at this
  | some i =>
    have hs : i.size = 1 := by
      have := Try.info5
      simp [hq] at this
      exact this.2.1
    have hcap : ¬ cap = 0 := by omega
    obtain ⟨x, rfl⟩ : ∃ x, ad = some x := by
      cases ad with
      | none => have := h3 rfl; omega
      | some x => exact ⟨x, rfl⟩
    have hx : x.add 0 = x := by unfold Addr.add; simp
    have hb := run_bound_in (P := Try.prog) w .i64 h cap .sliceAcap (by omega)
    simp [Instr.sliceAt, run_underlying Try.underlying22 w, Instr.slice, Instr.sliceBounds, sizeOf, typeInfo, hq, hs, hcap, hx, Result.andThen]
    have hb' : (Instr.sliceBound (.int .i64 (h : Int)) cap .sliceAcap).run Try.prog w = .ok h w := hb
    simp [hb', hcap, hx]
theorem wpList_bsTo {ops : Array Oper} {rest : List Oper} {o : Oper} {a : Act} {w : World} {Q : Exit → Act → World → Prop} (hgd : o.guard = none) (x hi : Operand) (ho : o.op = .slice 22 x none (some hi) none) {ad : Option Addr} {n cap : Nat} {l : List UInt8} (hB : Bs w (.slice ad n cap) l) (h : Nat) {i : Int}
    (hx : a.eval x = .slice ad n cap) (hhi : a.eval hi = .int .i64 i) (hih : i = (h : Int)) (hh : h ≤ n) (h0 : 0 < n)
    (hk : Bs w (.slice ad h cap) (l.take h) → wpList Try.prog ops Q rest (a.put o.dst (.slice ad h cap)) w) : wpList Try.prog ops Q (o :: rest) a w := by
  refine wpList_value hgd (.slice ad h cap) ?_ (hk (hB.take hh))
  have hrun := run_bsTo hB h hh h0
  subst hih
  simp [execOp, ho, hx, hhi, hrun, Result.andThen]

theorem wpList_min {ops : Array Oper} {rest : List Oper} {o : Oper} {a : Act} {w : World} {Q : Exit → Act → World → Prop} (hgd : o.guard = none) (x y : Operand) {ts : Array TypeId} (ho : o.op = .call { callee := .builtin .min, args := #[x, y], argTypes := ts }) {k : IntKind} {i j m : Int}
    (hx : a.eval x = .int k i) (hy : a.eval y = .int k j) (hm : m = if j < i then j else i) (h : wpList Try.prog ops Q rest (a.put o.dst (.int k m)) w) : wpList Try.prog ops Q (o :: rest) a w := by
  refine wpList_value hgd (.int k m) ?_ h
  subst hm
  simp [execOp, ho, resolve, invoke, builtin, hx, hy, run_min_int2, Result.andThen]

theorem append_cut (prk info : List UInt8) (j n k : Nat) (hN : (hkN prk info (j + 1)).length = 32) (e : min 32 (n - 32 * j) = k) {w : World} {base : Nat} {v : Value}
    (h : Owns w base v ((hkTo prk info j).take n ++ (hmac prk (hkN prk info j ++ info ++ [UInt8.ofNat (j + 1)])).take k)) : Owns w base v ((hkTo prk info j).take n ++ (hkN prk info (j + 1)).take (n - 32 * j)) := by
  have : (hkN prk info (j + 1)).take (n - 32 * j) = (hkN prk info (j + 1)).take k := by
    by_cases h1 : n - 32 * j ≤ 32
    · rw [← e, Nat.min_eq_right h1]
    · rw [← e, Nat.min_eq_left (by omega), List.take_of_length_le (by omega), List.take_of_length_le (by omega)]
  rw [this]
  exact h

set_option maxHeartbeats 2000000 in
theorem stretch_any (y : Nat) (prk info : List UInt8) (vi : Value) (n : Nat) (w : World) (hK : KeyAt w y prk) (hi : Bs w vi info) (hil : info.length < 2 ^ 30) (hn : 1 ≤ n) (hn2 : n ≤ 8160) :
    Calls Try.prog 26 #[.func (.func 11) #[.pointer (some ⟨y, 0, none⟩)] #[], vi, .int .i64 (n : Int)] w fun e w' => ∃ v', e = .returned v' ∧ Bs w' v' (hkdfL prk info n) ∧ Below w.heap.size w w' := by
  obtain ⟨ai, ni, ci, rfl, hni, hci1, hci2, hI0⟩ := hi.shape
  have HI := Lib.hid hI0
  have HK := Lib.hid hK
  have HIL := Lib.hid hil
  have HNI := Lib.hid hni
  obtain ⟨i0, hi0, hz0, hz1, hz2⟩ := info_parts Try.info5
  have hlen : ∀ j, (hkTo prk info j).length = 32 * j := hkTo_length prk info
  have HLEN := Lib.hid hlen
  clear hi hI0 hK hil hlen hni
  go_enter Try.func26, Try.ntmps26
  go_wp2_with (refine wpList_make_own _ rfl _ _ 22 rfl w.heap.size 5 i0 (.int .u8 0) 1 Try.underlying22 hi0 hz0 hz1 .i64 .i64 _ n rfl rfl rfl (by rw [hz2]; omega) (by unfold maxLen; omega) (Nat.le_refl _) ?_; intro w1 hown1 hgrow1)
  have hO : Owns w1 w.heap.size (.slice (some ⟨w.heap.size, 0, none⟩) 0 n) [] := hown1
  have hB1 : Below w.heap.size w w1 := (Below.refl _ _).grown hgrow1 (Nat.le_refl _) (fun k hk => by cases hk)
  clear hown1 hgrow1
  go_loopw [7, 8, 9] (fun out last c wr => ∃ j : Nat, c = .int .i64 ((j + 1 : Nat) : Int) ∧ (j = 0 ∨ 32 * (j - 1) < n) ∧ Owns wr w.heap.size out ((hkTo prk info j).take n) ∧ Bs wr last (hkN prk info j) ∧ Below w.heap.size w wr) (fun _ _ c _ => n + 32 - 32 * (intOf c).toNat)
  case atStart => exact ⟨0, rfl, .inl rfl, by simpa [hkTo] using hO, Bs.nil _, hB1⟩
  case round =>
    clear hO hB1
    obtain ⟨j, rfl, hjn, hown, hlast, hbel⟩ := hrel
    obtain ⟨ao, co, hoe⟩ := hown.shape
    have hol : ((hkTo prk info j).take n).length = min n (32 * j) := by rw [List.length_take, HLEN.out]
    by_cases hlt : 32 * j < n
    · have hj255 : j + 1 ≤ 255 := by omega
      have hcb : ((UInt8.ofNat (j + 1)).toNat : Int) = (j : Int) + 1 := by
        simp only [UInt8.toNat_ofNat']
        omega
      have hN1 := hkN_length prk info j
      have hlastle := hkN_le prk info j
      have hjl : ((hkTo prk info j).take n).length = 32 * j := by omega
      rw [hjl] at hoe
      subst hoe
      obtain ⟨al, nl, cl, rfl, hnl, hcl1, hcl2, hL0⟩ := hlast.shape
      have hone := Bs.one wr (UInt8.ofNat (j + 1))
      rw [hcb] at hone
      have hb1 : Below wr.heap.size wr (wr.alloc (.cells #[.int .u8 ((j : Int) + 1)] 5)) := (Below.refl _ _).alloc (Nat.le_refl _) _
      have hI1 := (HI.out.below hbel (Nat.le_refl _)).below hb1 (Nat.le_refl _)
      have hL1 := hL0.below hb1 (Nat.le_refl _)
      have hR := Bss.three hL1 hI1 hone (n := wr.heap.size + 1) (by simp)
      have hb2 : Below wr.heap.size wr ((wr.alloc (.cells #[.int .u8 ((j : Int) + 1)] 5)).alloc (.cells #[.slice al nl cl, .slice ai ni ci, .slice (some ⟨wr.heap.size, 0, none⟩) 1 1] 22)) := hb1.alloc hb1.size _
      have hK2 := (HK.out.below hbel (Nat.le_refl _)).below hb2 (Nat.le_refl _)
      have hfl : ([hkN prk info j, info, [UInt8.ofNat (j + 1)]] : List (List UInt8)).flatten = hkN prk info j ++ info ++ [UInt8.ofNat (j + 1)] := by simp
      have hfll : (([hkN prk info j, info, [UInt8.ofNat (j + 1)]] : List (List UInt8)).flatten).length < 2 ^ 58 := by rw [hfl]; simp only [List.length_append, List.length_singleton]; have := HIL.out; omega
      have HFL := Lib.hid hfl
      have HR := Lib.hid hR
      have HFLL := Lib.hid hfll
      have HO := Lib.hid hown
      have hnle : n ≤ 8160 := hn2
      have HT := Lib.hid (hkTo_take prk info j n)
      have HHL := Lib.hid hjl
      clear hone hb1 hI1 hL1 hR hL0 hfl hfll hlast hown hnl hlastle hol hjl
      go_wp2_with fail
      refine (kmac_any y prk _ _ _ hK2 HR.out HFLL.out).mono ?_
      rintro e w3 ⟨v3, rfl, hO3, hb3⟩
      rw [HFL.out] at hO3
      have HA3 : Hid (∀ b, (Value.slice ao (32 * j) co).ownBlock = some b → Away v3 b) := Lib.hid fun b hb => hO3.away (by have := (World.ownsRow.lt HO.out b hb).2; have := hb2.size; omega)
      have hB3 := hO3.bs
      clear hO3
      have hb03 : Below w.heap.size w w3 := hbel.trans ((hb2.trans (hb3.mono hb2.size)).mono hbel.size)
      have HO3 := Lib.hid (HO.out.below (hb2.trans (hb3.mono hb2.size)))
      obtain ⟨a3, n3, c3, rfl, hn3, hc31, hc32, hB3⟩ := hB3.shape
      have hn32 : n3 = 32 := by rw [← hn3]; exact hmac_length _ _
      subst hn32
      clear hb2 hb3 HR HFLL HFL hK2 hn3 hbel
      obtain ⟨k, hk⟩ : ∃ k, k = min 32 (n - 32 * j) := ⟨_, rfl⟩
      have hkI : IntKind.i64.wrap ((n : Int) - 32 * (j : Int)) = ((n - 32 * j : Nat) : Int) := by rw [IntWalk.i64_in _ (by omega)]; omega
      have HKK := Lib.hid hk
      have hk32 : k ≤ 32 := by omega
      clear hk
      go_wp2_with (first
        | refine wpList_min rfl (.tmp 29) (.tmp 33) rfl (m := (k : Int)) rfl rfl (by rw [HKK.out]; split <;> omega) ?_
        | (refine wpList_bsTo rfl (.tmp 27) (.tmp 34) rfl hB3 k rfl rfl rfl hk32 (by omega) ?_; intro hB4)
        | (refine wpList_app rfl (.tmp 26) (.tmp 35) rfl w.heap.size _ _ _ _ HO3.out hB4 rfl rfl (by have := HHL.out; simp only [List.length_take, hmac_length]; omega) hb03.size ?_; intro v5 w5 hO5 hg5))
      have hbel5 : Below w.heap.size w w5 := hb03.grown hg5 hb03.size (Owns.block HO3.out)
      have hB5 : Bs w5 (.slice a3 32 c3) (hmac prk (hkN prk info j ++ info ++ [UInt8.ofNat (j + 1)])) := hB3.grownOwn hg5 HO3.out (fun b _ hb => HA3.out b hb)
      clear HO3 hg5 hb03 hB3 hB4
      go_wp2
      go_roundw
      case rel => exact ⟨j + 1, by go_num, .inr (by omega), by rw [HT.out]; have e : min 32 (n - 32 * j) = k := HKK.out.symm; exact append_cut prk info j n k hN1 e hO5, hB5, hbel5⟩
      case measure => simp [intOf]; omega
    · have hln : ((hkTo prk info j).take n).length = n := by omega
      rw [hln] at hoe
      subst hoe
      have hall : (hkTo prk info j).take n = hkdfL prk info n := by
        unfold hkdfL
        rw [show (n + 31) / 32 = j by omega]
      rw [hall] at hown
      have HO := Lib.hid hown
      clear hlast hol hln hall hown
      go_wp2
      go_ret
      exact ⟨_, rfl, HO.out.bs, hbel⟩

set_option maxHeartbeats 1000000 in
theorem expand_any (vp vi : Value) (prk info : List UInt8) (n : Int) (w : World) (hp : Bs w vp prk) (hpl : prk.length < 2 ^ 30) (hi : Bs w vi info) (hil : info.length < 2 ^ 30) (hn : (Lit.int .i64 n).wf = true) :
    Calls Try.prog 16 #[vp, vi, .int .i64 n] w fun e w' => ∃ v', e = .returned v' ∧ Bs w' v' (expandL prk info n) ∧ Below w.heap.size w w' := by
  have HP := Lib.hid hp
  have HI := Lib.hid hi
  have HPL := Lib.hid hpl
  have HIL := Lib.hid hil
  clear hp hpl hi hil
  by_cases h1 : n < 1
  · rw [expandL_out _ _ _ (.inl h1)]
    clear hn
    go_enter Try.func16, Try.ntmps16
    go_wp2
    go_ret
    exact ⟨_, rfl, Bs.nil _, Below.refl _ _⟩
  · by_cases h2 : 8160 < n
    · rw [expandL_out _ _ _ (.inr h2)]
      clear hn
      go_enter Try.func16, Try.ntmps16
      go_wp2
      go_ret
      exact ⟨_, rfl, Bs.nil _, Below.refl _ _⟩
    · obtain ⟨m, rfl⟩ : ∃ m : Nat, n = (m : Int) := ⟨n.toNat, by omega⟩
      rw [expandL_in _ _ _ (by omega)]
      have hm1 : 1 ≤ m := by omega
      have hm2 : m ≤ 8160 := by omega
      simp only [Int.toNat_natCast]
      clear hn
      go_enter Try.func16, Try.ntmps16
      go_wp2_with (first
        | (go_at_call 10; refine (newKey_any _ prk _ HP.out HPL.out).mono ?_; rintro e w1 ⟨y1, rfl, hy1, hK1, hb1⟩
           have HI1 := Lib.hid (HI.out.below hb1 (Nat.le_refl _)))
        | (go_at_call 26; refine (stretch_any y1 prk info _ m _ hK1 HI1.out HIL.out hm1 hm2).mono ?_; rintro e w2 ⟨v2, rfl, hB2, hb2⟩
           have hb02 := hb1.trans (hb2.mono hb1.size)))
      go_ret
      exact ⟨_, rfl, hB2, hb02⟩

set_option maxHeartbeats 800000 in
theorem derive_any (vs vk vi : Value) (salt ikm info : List UInt8) (n : Int) (w : World) (hs : Bs w vs salt) (hsl : salt.length < 2 ^ 30) (hk : Bs w vk ikm) (hkl : ikm.length < 2 ^ 30) (hi : Bs w vi info) (hil : info.length < 2 ^ 30) (hn : (Lit.int .i64 n).wf = true) :
    Calls Try.prog 13 #[vs, vk, vi, .int .i64 n] w fun e w' => ∃ v', e = .returned v' ∧ Bs w' v' (deriveL salt ikm info n) ∧ Below w.heap.size w w' := by
  have HS := Lib.hid hs
  have HK := Lib.hid hk
  have HI := Lib.hid hi
  have HSL := Lib.hid hsl
  have HKL := Lib.hid hkl
  have HIL := Lib.hid hil
  clear hs hsl hk hkl hi hil
  go_enter Try.func13, Try.ntmps13
  go_wp2_with (first
    | (go_at_call 14; refine (extract_any _ _ salt ikm _ HS.out HSL.out HK.out HKL.out).mono ?_; rintro e w1 ⟨v1, rfl, hB1, hb1⟩
       have HI1 := Lib.hid (HI.out.below hb1 (Nat.le_refl _)))
    | (go_at_call 16; refine (expand_any _ _ _ info n _ hB1 (by rw [hmac_length]; decide) HI1.out HIL.out hn).mono ?_; rintro e w2 ⟨v2, rfl, hB2, hb2⟩
       have hb02 := hb1.trans (hb2.mono hb1.size)))
  go_ret
  exact ⟨_, rfl, hB2, hb02⟩
end Go.Proofs.Ytladojcbbhphfaa
