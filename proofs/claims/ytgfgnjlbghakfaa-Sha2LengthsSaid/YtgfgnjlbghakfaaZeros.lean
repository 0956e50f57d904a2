/- 'append(m, make([]byte, k)...)', m the call's own: the translation hands the builtin the number. -/
import Derived.Test.YtgfgnjlbghakfaaRefLaws
import Derived.Lib.AppendZeros
namespace Go.Proofs.Ytgfgnjlbghakfaa
open Go.RowKit Go.Deep

theorem u8s_zeros (k : Nat) : u8s (List.replicate k 0) = (Builtin.zeroCells (Value.int .u8 0).cells k).toList := by
  apply List.ext_getElem?
  intro i
  by_cases h : i < k
  · simp [u8s, Builtin.zeroCells, Value.cells, h, Nat.mod_one]
  · simp [u8s, Builtin.zeroCells, Value.cells, h]

theorem run_app_zeros {w : World} {base : Nat} {v : Value} {l : List UInt8} (hown : Owns w base v l) (hl0 : 0 < l.length) (k : Nat) (hk : 0 < k) (hlen : l.length + k ≤ 2147483647) (hbase : base ≤ w.heap.size) (ty : TypeId) :
    ∃ v' w', (Builtin.append_ #[25, 3] ty #[v, .int .i64 (k : Int)]).run Try.prog w = .ok v' w' ∧ Owns w' base v' (l ++ List.replicate k 0) ∧ w.grownBy w' v.ownBlock := by
  obtain ⟨i, hi, hz, hs1, hb1⟩ := info_parts Try.info5
  have ht : Try.prog.underlying 25 = some (.slice 5) := Try.underlying25
  have htn : Try.prog.underlying 3 = some (.int .i64) := Try.underlying3
  obtain ⟨news, hnews⟩ : ∃ news, news = u8s (List.replicate k 0) := ⟨_, rfl⟩
  have hnl : news.length = k := by rw [hnews, u8s_length, List.length_replicate]
  have hzc : (Builtin.zeroCells (Value.int .u8 0).cells k).toList = news := by rw [hnews, u8s_zeros]
  have h1 : ∀ u ∈ news, u.oneCell' = true := by
    intro u hu
    rw [hnews] at hu
    simp only [u8s, List.mem_map] at hu
    obtain ⟨b, _, rfl⟩ := hu
    rfl
  have hxs : u8s (l ++ List.replicate k 0) = u8s l ++ news := by rw [u8s_append, hnews]
  have hlen2 : (l ++ List.replicate k (0 : UInt8)).length = l.length + k := by simp
  have hw : IntKind.i64.wrap (k : Int) = k := IntWalk.i64_in _ (by omega)
  have hneg : ¬ ((k : Int) < 0) := by omega
  have h48i : ¬ (281474976710656 < (k : Int) * (i.bytes : Int)) := by rw [hb1]; omega
  have hk0 : k ≠ 0 := by omega
  rcases hown.2 with ⟨rfl, hn⟩ | ⟨g, cap, cur, rfl, hbg, hg, hnc, hcm, hcs, htake⟩
  · omega
  · by_cases hroom : l.length + k ≤ cap
    · have hfit : l.length + news.length ≤ cur.size := by rw [hnl, hcs]; omega
      have hst := Go.run_storeCells_at Try.prog g l.length 5 news 0 cur w hg (by simpa using hfit) h1
      simp only [Nat.add_zero] at hst
      refine ⟨.slice (some ⟨g, 0, none⟩) (l.length + k) cap, w.setRow g (cur.toList.take l.length ++ news ++ cur.toList.drop (l.length + news.length)).toArray, ?_, ?_, ?_⟩
      · simp [Builtin.append_, run_underlying ht, run_underlying htn, sizeOf, typeInfo, zeroValue, hi, hz, hs1, asInt, asIntOf, hw, hneg, h48i, hk0, hroom, Addr.add_lit, hzc, hst]
      · unfold Owns
        rw [hxs, hlen2]
        refine ⟨by rw [List.length_append, u8s_length, hnl]; omega, .inr ⟨g, cap, _, rfl, hbg, setRow_heap w g cur _ 5 _ hg, hroom, hcm, ?_, ?_⟩⟩
        · simp only [List.size_toArray, List.length_append, List.length_take, List.length_drop, Array.length_toList]
          omega
        · have htake' : cur.toList.take l.length = u8s l := by simpa using htake
          simp only [Nat.mul_one]
          rw [htake']
          have e : (u8s l ++ news).length = l.length + k := by rw [List.length_append, u8s_length, hnl]
          rw [← e]
          exact List.take_left
      · exact ⟨rfl, rfl, rfl, by simp, fun j _ hj => setRow_other w g j _ (fun e => hj (by simp [Value.ownBlock, e]))⟩
    · have holds : ∀ j u, (u8s l)[j]? = some u → w.drew.cell? ((⟨g, 0, none⟩ : Addr).add j) = some u := World.ownsRow.cells hown (g := g) rfl
      have hfo := run_firstCells_some (P := Try.prog) w.drew 1 l.length ⟨g, 0, none⟩ l.length cap (u8s l) (by rw [u8s_length]; omega) holds
      have h63' : ¬ (9223372036854775807 < ((l.length : Int) + (k : Int))) := by omega
      have h48' : ¬ (281474976710656 < Builtin.nextslicecap (l.length + k) cap * i.bytes) := by
        have := growslice_fits (need := l.length + k) (old := cap) (bytes := i.bytes) (by omega) (by rw [hb1]; omega)
        omega
      obtain ⟨N, hN⟩ : ∃ N, N = (u8s l).toArray ++ Builtin.zeroCells (Value.int .u8 0).cells k ++ Builtin.zeroCells (Value.int .u8 0).cells (grownCap w (l.length + k) cap 5 - (l.length + k)) := ⟨_, rfl⟩
      have hge := grownCap_ge w (l.length + k) cap 5
      have hcm2 : grownCap w (l.length + k) cap 5 ≤ maxLen := grownCap_le_maxLen w _ _ _ (by unfold maxLen; omega)
      have hNl : N.toList = u8s l ++ (news ++ (Builtin.zeroCells (Value.int .u8 0).cells (grownCap w (l.length + k) cap 5 - (l.length + k))).toList) := by
        rw [hN]; simp only [Array.toList_append, hzc, List.append_assoc]
      refine ⟨.slice (some ⟨w.heap.size, 0, none⟩) (l.length + k) (grownCap w (l.length + k) cap 5), w.drew.alloc (.cells N 5), ?_, ?_, ⟨rfl, rfl, rfl, by simp, fun j hj _ => Below.heap_alloc w.drew _ j hj⟩⟩
      · rw [hN]
        simp [Builtin.append_, run_underlying ht, run_underlying htn, sizeOf, typeInfo, zeroValue, hi, hz, hs1, asInt, asIntOf, hw, hneg, h48i, hk0, hroom, h63', h48', Question.forced, hfo, newRow, grownCap]
      · unfold Owns
        rw [hxs, hlen2]
        refine ⟨by rw [List.length_append, u8s_length, hnl]; omega, .inr ⟨w.heap.size, _, N, rfl, hbase, heap_alloc_new w.drew _, hge, hcm2, ?_, ?_⟩⟩
        · have := congrArg List.length hNl
          simp only [Array.length_toList, List.length_append, u8s_length, hnl, size_zeroCells] at this
          rw [this]
          simp [Value.cells]
          omega
        · rw [hNl, ← List.append_assoc]
          have e : (u8s l ++ news).length = l.length + k := by rw [List.length_append, u8s_length, hnl]
          simp only [Nat.mul_one]
          rw [← e]
          exact List.take_left
end Go.Proofs.Ytgfgnjlbghakfaa
