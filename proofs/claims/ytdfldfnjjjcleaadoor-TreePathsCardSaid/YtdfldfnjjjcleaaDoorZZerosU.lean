/-
  'append(l, make([]uint64, k)...)' where l is a row of the call's own: it is a row of its own with k noughts more.
-/
import Derived.Test.YtdfldfnjjjcleaaDoorZWord
import Derived.Lib.AppendZerosOnto
import Derived.Test.YtdfldfnjjjcleaaDoorZAr

namespace Go.Proofs.YtdfldfnjjjcleaaDoor
open Go.RowKit

theorem zeroCells_listU (k : Nat) : (Builtin.zeroCells #[Value.int .u64 0] k).toList = List.replicate k (Value.int .u64 0) := by
  apply List.ext_getElem
  · simp [Builtin.zeroCells]
  · intro i h1 h2
    simp [Builtin.zeroCells, Nat.mod_one]

theorem zeros_newU (w : World) (base n k C : Nat) (xs : List Value) (hx : xs.length = n) (hC : n + k ≤ C) (hm : C ≤ maxLen) (hbase : base ≤ w.heap.size) (row : Option Nat) :
    (w.drew.alloc (.cells (xs.toArray ++ Builtin.zeroCells #[Value.int .u64 0] k ++ Builtin.zeroCells #[Value.int .u64 0] (C - (n + k))) 53)).ownsRow base 53 1 (.slice (some ⟨w.heap.size, 0, none⟩) (n + k) C) (n + k) (xs ++ List.replicate k (.int .u64 0)) ∧
    w.grownBy (w.drew.alloc (.cells (xs.toArray ++ Builtin.zeroCells #[Value.int .u64 0] k ++ Builtin.zeroCells #[Value.int .u64 0] (C - (n + k))) 53)) row := by
  have hlen : (xs ++ List.replicate k (Value.int .u64 0)).length = n + k := by rw [List.length_append, hx, List.length_replicate]
  refine ⟨⟨by omega, .inr ⟨w.heap.size, _, _, rfl, hbase, heap_alloc_new w.drew _, hC, hm, ?_, ?_⟩⟩, ⟨rfl, rfl, rfl, by simp, fun _ hj _ => heap_alloc_old w.drew _ hj⟩⟩
  · simp only [Array.size_append, List.size_toArray, size_zeroCells]
    simp
    omega
  · simp only [Array.toList_append, zeroCells_listU]
    rw [Nat.mul_one, ← hlen]
    exact List.take_left

theorem az_noneU (w : World) (base ty : Nat) (v : Value) (n : Nat) (xs : List Value) (hown : w.ownsRow base 53 1 v n xs) :
    (Builtin.append_ #[34, 3] ty #[v, .int .i64 0]).run Tryd.prog w = .ok v w := by
  obtain ⟨i0, hi, hz0, hz1, hz2⟩ := info_parts Tryd.info53
  have ht := Tryd.underlying34
  have htn := Tryd.underlying3
  rcases hown.2 with ⟨rfl, rfl⟩ | ⟨g, cap, cur, rfl, hbg, hg, hnc, hcm, hcs, htake⟩
  · simp [Builtin.append_, run_underlying ht, run_underlying htn, sizeOf, typeInfo, hi, asInt, asIntOf, IntKind.wrap_i64]
  · simp [Builtin.append_, run_underlying ht, run_underlying htn, sizeOf, typeInfo, hi, asInt, asIntOf, IntKind.wrap_i64, hnc, storeCells]

theorem az_roomU (w : World) (ty g n k cap : Nat) (cur : Array Value) (hg : w.heap[g]? = some (.cells cur 53 (0, 0))) (hcs : cur.size = cap) (k0 : 0 < k) (hk : k ≤ 100000000) (hroom : n + k ≤ cap) :
    (Builtin.append_ #[34, 3] ty #[.slice (some ⟨g, 0, none⟩) n cap, .int .i64 k]).run Tryd.prog w = .ok (.slice (some ⟨g, 0, none⟩) (n + k) cap) (w.setRow g (cur.toList.take n ++ List.replicate k (Value.int .u64 0) ++ cur.toList.drop (n + k)).toArray) := by
  obtain ⟨i0, hi, hz0, hz1, hz2⟩ := info_parts Tryd.info53
  have ht := Tryd.underlying34
  have htn := Tryd.underlying3
  have hst := run_storeCells_at Tryd.prog g n 53 (List.replicate k (Value.int .u64 0)) 0 cur w hg (by rw [List.length_replicate, hcs]; omega) (by intro u hu; rw [List.eq_of_mem_replicate hu]; rfl)
  simp only [Nat.add_zero, List.length_replicate] at hst
  have hw : IntKind.i64.wrap (k : Int) = k := by rw [IntKind.wrap_i64]; omega
  have hneg : ¬ ((k : Int) < 0) := by omega
  have hl : (Builtin.zeroCells #[Value.int .u64 0] k).toList = List.replicate k (Value.int .u64 0) := zeroCells_listU k
  have h48j : ¬ (281474976710656 < (k : Int) * 8) := by omega
  have kn : ¬ (k = 0) := by omega
  have hz1' : (Value.int IntKind.u64 0).cells = #[Value.int .u64 0] := rfl
  simp [Builtin.append_, run_underlying ht, run_underlying htn, sizeOf, typeInfo, zeroValue, hi, hz0, hz1, hz2, hz1', asInt, asIntOf, hw, hneg, h48j, kn, hroom, Addr.add_lit, hl, hst]

theorem az_growU (w : World) (ty g n k cap : Nat) (xs : List Value) (hx : xs.length = n) (hold : ∀ j u, xs[j]? = some u → w.cell? ((⟨g, 0, none⟩ : Addr).add j) = some u) (k0 : 0 < k) (hk : n + k ≤ 100000000) (hroom : cap < n + k) :
    (Builtin.append_ #[34, 3] ty #[.slice (some ⟨g, 0, none⟩) n cap, .int .i64 k]).run Tryd.prog w = .ok (.slice (some ⟨w.heap.size, 0, none⟩) (n + k) (grownCap w (n + k) cap 53)) (w.drew.alloc (.cells (xs.toArray ++ Builtin.zeroCells #[Value.int .u64 0] k ++ Builtin.zeroCells #[Value.int .u64 0] (grownCap w (n + k) cap 53 - (n + k))) 53)) := by
  obtain ⟨i0, hi, hz0, hz1, hz2⟩ := info_parts Tryd.info53
  refine Lib.run_append_grow_zeros (P := Tryd.prog) w 34 3 ty 53 i0 (.int .u64 0) .i64 .i64 Tryd.underlying34 Tryd.underlying3 hi hz0 (some ⟨g, 0, none⟩) n cap xs ?_ k k0 (by omega) hroom (by omega) (by rw [hz2]; omega) (growslice_fits hroom (by rw [hz2]; omega))
  exact run_firstCells_some w.drew i0.size n ⟨g, 0, none⟩ n cap xs (by rw [hz1]; omega) hold

theorem az_nilU (w : World) (ty k : Nat) (k0 : 0 < k) (hk : k ≤ 100000000) :
    (Builtin.append_ #[34, 3] ty #[.slice none 0 0, .int .i64 k]).run Tryd.prog w = .ok (.slice (some ⟨w.heap.size, 0, none⟩) k (grownCap w k 0 53)) (w.drew.alloc (.cells (Builtin.zeroCells #[Value.int .u64 0] k ++ Builtin.zeroCells #[Value.int .u64 0] (grownCap w k 0 53 - k)) 53)) := by
  obtain ⟨i0, hi, hz0, hz1, hz2⟩ := info_parts Tryd.info53
  exact Lib.run_append_nil_zeros (P := Tryd.prog) w 34 3 ty 53 i0 (.int .u64 0) .i64 .i64 Tryd.underlying34 Tryd.underlying3 hi hz0 k k0 (by omega) (by omega) (by rw [hz2]; omega)

/-- append(l, make([]uint64, k)...), l a row of the call's own -/
theorem append_zerosU (w : World) (base ty : Nat) (v : Value) (n k : Nat) (xs : List Value) (hown : w.ownsRow base 53 1 v n xs) (hk : n + k ≤ 100000000) (hbase : base ≤ w.heap.size) :
    ∃ v' w', (Builtin.append_ #[34, 3] ty #[v, .int .i64 k]).run Tryd.prog w = .ok v' w' ∧ w'.ownsRow base 53 1 v' (n + k) (xs ++ List.replicate k (.int .u64 0)) ∧ w.grownBy w' v.ownBlock := by
  by_cases k0 : k = 0
  · subst k0
    exact ⟨v, w, az_noneU w base ty v n xs hown, by simpa using hown, ⟨rfl, rfl, rfl, Nat.le_refl _, fun _ _ _ => rfl⟩⟩
  · have hlen : (xs ++ List.replicate k (Value.int .u64 0)).length = n + k := by rw [List.length_append, hown.1, List.length_replicate]; omega
    have hown0 := hown
    rcases hown.2 with ⟨rfl, rfl⟩ | ⟨g, cap, cur, rfl, hbg, hg, hnc, hcm, hcs, htake⟩
    · have hx : xs = [] := List.eq_nil_of_length_eq_zero (by simpa using hown.1)
      subst hx
      have hgr := zeros_newU w base 0 k (grownCap w k 0 53) [] rfl (by have := grownCap_ge w k 0 53; omega) (grownCap_le_maxLen w k 0 53 (by unfold maxLen; omega)) hbase (Value.ownBlock (.slice none 0 0))
      simp only [Nat.zero_add, List.nil_append, Array.empty_append] at hgr ⊢
      exact ⟨_, _, az_nilU w ty k (by omega) (by omega), hgr.1, hgr.2⟩
    · rw [Nat.mul_one] at hcs htake
      by_cases hroom : n + k ≤ cap
      · refine ⟨_, _, az_roomU w ty g n k cap cur hg hcs (by omega) (by omega) hroom, ⟨by omega, .inr ⟨g, cap, _, rfl, hbg, setRow_heap w g cur _ 53 _ hg, hroom, hcm, ?_, ?_⟩⟩, ⟨rfl, rfl, rfl, by simp, fun j _ hj => setRow_other w g j _ (fun e => hj (by simp [Value.ownBlock, e]))⟩⟩
        · simp only [List.size_toArray, List.length_append, List.length_take, List.length_drop, Array.length_toList, List.length_replicate]
          omega
        · rw [htake, Nat.mul_one, ← hlen]
          exact List.take_left
      · have hgr := zeros_newU w base n k (grownCap w (n + k) cap 53) xs (by have := hown.1; omega) (grownCap_ge _ _ _ _) (grownCap_le_maxLen w (n + k) cap 53 (by unfold maxLen; omega)) hbase (Value.ownBlock (.slice (some ⟨g, 0, none⟩) n cap))
        exact ⟨_, _, az_growU w ty g n k cap xs (by have := hown.1; omega) (hown0.cells (g := g) rfl) (by omega) hk (by omega), hgr.1, hgr.2⟩

end Go.Proofs.YtdfldfnjjjcleaaDoor
