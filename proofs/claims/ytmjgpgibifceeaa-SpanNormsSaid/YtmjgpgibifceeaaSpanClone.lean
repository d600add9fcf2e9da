/-
  Layer 4: slices.Clone at spans; a row of spans of the call's own, as the library's sort speaks of it, ahead of the sort and behind it.
-/
import Derived.Test.YtmjgpgibifceeaaSpanCmp
import Derived.Shelf.SlSortCmp.InsertionK
namespace Go.Proofs.Ytmjgpgibifceeaa
open Go.RowKit Go.Deep Go.Sort

/-- a slice of spans copied whole into a row of the call's own that has none -/
theorem append_spans (w : World) (base ty : Nat) (v : Value) (l m : List Sp) (A : Addr) (c B : Nat) (hs : Spans w B (.slice (some A) m.length c) m) (hown : OwnS w base v l) (hk : l.length + m.length ≤ 1000000000) (hbase : base ≤ w.heap.size) :
    ∃ v' w', (Builtin.append_ #[22, 22] ty #[v, .slice (some A) m.length c]).run Try.prog w = .ok v' w' ∧ OwnS w' base v' (l ++ m) ∧ w.grownBy w' v.ownBlock := by
  obtain ⟨i0, hi, hz0, hz1, hz2⟩ := info_parts Try.info24
  obtain ⟨A', c', e, hc, hm, hr⟩ := hs
  cases e
  obtain ⟨v', w', hrun, ho, hg, _⟩ := run_append_own (P := Try.prog) (w := w) base 22 ty 24 i0 _ 2 16 Try.underlying22 hi hz0 hz1 hz2 rfl (by decide) v l.length (cellsS l) hown A m.length c (cellsS m) (cellsS_length m)
    (fun j u hu => by
      have hj : j < m.length * 2 := by
        have := (List.getElem?_eq_some_iff.1 hu).1
        rwa [cellsS_length] at this
      obtain ⟨b, off, ea, _, hcell⟩ := hr (by omega)
      cases ea
      have h1 := hcell (j / 2) (by omega)
      have h2 := cellsS_get m (j / 2) (by omega)
      have e1 : (⟨b, off, none⟩ : Addr).add j = ⟨b, off + j, none⟩ := by simp [Addr.add]
      rw [e1]
      rcases Nat.mod_two_eq_zero_or_one j with h | h
      · have ej : j / 2 * 2 = j := by omega
        rw [ej] at h1 h2
        rw [h1.1, ← h2.1, hu]
      · have ej : j / 2 * 2 + 1 = j := by omega
        rw [Nat.add_assoc, ej] at h1
        rw [ej] at h2
        rw [h1.2, ← h2.2, hu])
    (fun u hu => by simp only [cellsS, List.mem_flatMap] at hu; obtain ⟨s, _, hu⟩ := hu; simp at hu; rcases hu with rfl | rfl <;> rfl) (by unfold maxLen; omega) (by omega) (by omega)
  refine ⟨v', w', hrun, ?_, hg⟩
  unfold OwnS
  rw [show cellsS (l ++ m) = cellsS l ++ cellsS m by simp [cellsS], List.length_append]
  exact ho

set_option maxHeartbeats 1000000 in
theorem clone_any (v : Value) (l : List Sp) (w : World) (h : Spans w w.heap.size v l) (hlen : l.length ≤ 1000000) :
    Calls Try.prog 33 #[v] w fun e w' => ∃ v', e = .returned v' ∧ OwnS w' w.heap.size v' l ∧ Below w.heap.size w w' := by
  have q22 : ∀ (w : World) (a : Option Addr) (n c n' c' : Nat), (binOp .eql 22 (.slice a n c) (.slice none n' c')).run Try.prog w = .ok (.bool a.isNone) w := fun w a n c n' c' => Lib.run_eql_slice_nil w _ _ a n c n' c' Try.underlying22
  have h0 := h
  obtain ⟨A, c, rfl, hc, hm, hr⟩ := h
  cases A with
  | none =>
    have hl : l = [] := by
      rcases Nat.eq_zero_or_pos l.length with h | h
      · exact List.eq_nil_of_length_eq_zero h
      · obtain ⟨b, off, e, _⟩ := hr h; cases e
    subst hl
    clear hr h0
    go_enter Try.func33, Try.ntmps33
    go_wp2
    go_ret
    exact ⟨_, rfl, OwnS.nil _ _, Below.refl _ _⟩
  | some A =>
    have hB : Below w.heap.size w (w.alloc (.cells #[] 24)) := (Below.refl _ _).alloc (Nat.le_refl _) _
    have hO : OwnS (w.alloc (.cells #[] 24)) w.heap.size (.slice (some ⟨w.heap.size, 0, none⟩) 0 0) [] := World.ownsRow_made w #[] 0 (Nat.le_refl _) (Nat.zero_le _) (by simp)
    obtain ⟨v', w', hrun, ho', hg'⟩ := append_spans _ w.heap.size 22 _ [] l A c _ (h0.below hB (Nat.le_refl _)) hO (by simp; omega) hB.size
    have HRun := Lib.hid hrun
    have HO := Lib.hid ho'
    have HB := Lib.hid (hB.grown (B := w.heap.size) hg' hB.size (fun k e => by cases e; exact Nat.le_refl _))
    obtain ⟨n, hn⟩ : ∃ n, n = l.length := ⟨_, rfl⟩
    rw [← hn] at HRun
    rw [← hn]
    clear hr h0 hB hO hrun ho' hg' hn hc
    go_enter Try.func33, Try.ntmps33
    go_wp2_with (at_builtin; refine Lib.wpList_append_run _ rfl _ _ _ _ rfl _ _ rfl rfl _ _ HRun.out ?_)
    go_ret
    exact ⟨_, rfl, HO.out, HB.out⟩

/-! ### as the sort speaks of it -/
def encS (s : Sp) : List Value := [.int .i64 s.1, .int .i64 s.2]
theorem flat_cells (l : List Sp) : (flatK encS 2 l.toArray).toList = cellsS l := by
  apply List.ext_getElem?
  intro t
  by_cases ht : t < l.length * 2
  · have hg := get_flatK encS 2 l.toArray t (by simpa using ht)
    rw [getElem!_pos _ _ (by simpa using ht)] at hg
    rw [Array.getElem?_toList, Array.getElem?_eq_getElem (by simpa using ht), hg]
    have h2 := cellsS_get l (t / 2) (by omega)
    have hd : l.toArray[t / 2]! = l[t / 2]?.getD (0, 0) := by rw [getElem!_pos l.toArray (t / 2) (by simp; omega), List.getElem?_eq_getElem (by omega)]; simp
    rw [hd]
    rcases Nat.mod_two_eq_zero_or_one t with h | h
    · rw [h]
      rw [show t / 2 * 2 = t by omega] at h2
      rw [h2.1]; rfl
    · rw [h]
      rw [show t / 2 * 2 + 1 = t by omega] at h2
      rw [h2.2]; rfl
  · rw [List.getElem?_eq_none (by simp; omega), List.getElem?_eq_none (by rw [cellsS_length]; omega)]
theorem holds_own {w : World} {base g cap n : Nat} {l : List Sp} (h : OwnS w base (.slice (some ⟨g, 0, none⟩) n cap) l) (hn : l.length = n) : HoldsK encS 2 w g 0 l.toArray := by
  subst hn
  intro j hj
  have hj' : j < l.length * 2 := by simpa using hj
  refine ⟨?_, World.ownsRow.frozenAt h _⟩
  rw [Nat.zero_add, World.ownsRow.cellAt h j hj', ← flat_cells, Array.getElem?_toList, getElem!_pos (flatK encS 2 l.toArray) j hj, Array.getElem?_eq_getElem hj]
  rfl
theorem own_sorted {w : World} {base g cap n q : Nat} {l m : List Sp} {os : Array Obj} (h : OwnS w base (.slice (some ⟨g, 0, none⟩) n cap) l) (hn : l.length = n) (hm : m.length = n) :
    OwnS (sortWorldK encS 2 w g 0 q m.toArray os) base (.slice (some ⟨g, 0, none⟩) n cap) m ∧ w.grownBy (sortWorldK encS 2 w g 0 q m.toArray os) (some g) := by
  subst hn
  obtain ⟨h1, ⟨e0, _⟩ | ⟨g', cap', cur, e0, hb, hg, hc, hmx, hs, ht⟩⟩ := h
  · cases e0
  · cases e0
    have hgl : g < w.heap.size := (Array.getElem?_eq_some_iff.1 hg).1
    have hfs : (flatK encS 2 m.toArray).size = l.length * 2 := by simp [hm]
    have hgrow : w.grownBy (sortWorldK encS 2 w g 0 q m.toArray os) (some g) := by
      refine ⟨rfl, rfl, rfl, by simp [sortWorldK, putRowK, putRow, mapBlock, Sort.ahead, grow], fun k hk hne => ?_⟩
      unfold sortWorldK putRowK
      rw [heap_grow_old _ _ (by simpa using hk)]
      have : g ≠ k := fun e => hne (by rw [e])
      simp [putRow, mapBlock, Sort.ahead, Array.getElem?_modify, this]
    refine ⟨⟨by rw [cellsS_length], .inr ⟨g, cap, putCells id 0 (flatK encS 2 m.toArray) cur, by rw [hm], hb, ?_, by rw [hm]; exact hc, hmx, by simp [putCells, hs], ?_⟩⟩, hgrow⟩
    · unfold sortWorldK putRowK
      rw [heap_grow_old _ _ (by simpa using hgl)]
      simp [putRow, mapBlock, Sort.ahead, Array.getElem?_modify, hg, onCells]
    · rw [← flat_cells m]
      apply List.ext_getElem?
      intro j
      rw [hm]
      by_cases hj : j < l.length * 2
      · rw [List.getElem?_take_of_lt hj, Array.getElem?_toList, Array.getElem?_toList]
        have hjc : j < cur.size := by rw [hs]; have := Nat.mul_le_mul_right 2 hc; omega
        simp only [putCells, Array.getElem?_mapIdx, Array.getElem?_eq_getElem hjc, Option.map_some]
        rw [if_pos (by rw [hfs]; omega), Array.getElem?_eq_getElem (by rw [hfs]; exact hj), Nat.sub_zero, getElem!_pos (flatK encS 2 m.toArray) j (by rw [hfs]; exact hj)]
        rfl
      · rw [List.getElem?_take_eq_none (by omega), List.getElem?_eq_none (by simp [hm]; omega)]

end Go.Proofs.Ytmjgpgibifceeaa
