/-
  Layer 8: the builder in memory: its box, its row of segments, each segment's row of words.
-/
import Derived.Test.YtofpjcmcpejnfaaDoorZPlain
import Derived.Test.YtofpjcmcpejnfaaDoorZSeq
import Derived.Test.YtofpjcmcpejnfaaDoorZCut

namespace Go.Proofs.YtofpjcmcpejnfaaDoor
open Go.RowKit Go.Deep

/-- a store into a row of the call's own -/
theorem own_setV {w : World} {base e n g i cap : Nat} {xs : List Value} (h : w.ownsRow base e 1 (.slice (some ⟨g, 0, none⟩) n cap) n xs) (u : Value) : (w.setCell ⟨g, i, none⟩ u).ownsRow base e 1 (.slice (some ⟨g, 0, none⟩) n cap) n (xs.set i u) := by
  obtain ⟨h1, ⟨e0, _⟩ | ⟨g', c, cur, e0, hb, hh, hc, hm, hs, ht⟩⟩ := h
  · cases e0
  · injection e0 with e1 e2 e3
    injection e1 with e1
    injection e1 with e1 _ _
    subst e1 e3
    refine ⟨by rw [List.length_set]; exact h1, .inr ⟨g, cap, cur.setIfInBounds i u, rfl, hb, ?_, hc, hm, by rw [Array.size_setIfInBounds]; exact hs, ?_⟩⟩
    · simp [World.setCell, Array.getElem?_modify, hh]
    · rw [← ht, Array.toList_setIfInBounds, List.take_set]
theorem own_frozen {w : World} {base e n g i cap : Nat} {xs : List Value} (h : w.ownsRow base e 1 (.slice (some ⟨g, 0, none⟩) n cap) n xs) : w.frozen? ⟨g, i, none⟩ = false := by
  obtain ⟨cur, hh, _⟩ := own_cells h rfl
  simp [World.frozen?, hh]
theorem own_cell {w : World} {base e n g i cap : Nat} {xs : List Value} (h : w.ownsRow base e 1 (.slice (some ⟨g, 0, none⟩) n cap) n xs) (hi : i < n) : w.cell? ⟨g, i, none⟩ = some (xs[i]?.getD undef) := by
  have h1 := h.1
  have := World.ownsRow.cellAt h i (by omega)
  rw [this, List.getElem?_eq_getElem (by omega)]
  rfl
/-- a row that has something is written out -/
theorem OwnU.out {w : World} {base : Nat} {v : Value} {xs : List Int} (h : OwnU w base v xs) (hp : 0 < xs.length) : ∃ g cap, v = .slice (some ⟨g, 0, none⟩) xs.length cap ∧ base ≤ g ∧ g < w.heap.size := by
  have h0 := h
  obtain ⟨_, ⟨_, hn⟩ | ⟨g, cap, cur, rfl, hb, _⟩⟩ := h
  · omega
  · exact ⟨g, cap, rfl, hb, (World.ownsRow.lt h0 g rfl).2⟩
theorem OwnU.set {w : World} {base g i n cap : Nat} {xs : List Int} (h : OwnU w base (.slice (some ⟨g, 0, none⟩) n cap) xs) (hn : n = xs.length) (x : Int) : OwnU (w.setCell ⟨g, i, none⟩ (.int .u64 x)) base (.slice (some ⟨g, 0, none⟩) n cap) (xs.set i x) := by
  subst hn
  have := own_setV (i := i) h (.int .u64 x)
  unfold OwnU OwnN
  rw [List.length_set, List.map_set]
  exact this

structure BuS (W : World) (base bb : Nat) (sz : Int) (a : List (List Int)) (g c : Nat) (us : List Value) : Prop where
  box : W.heap[bb]? = some (.cells #[.slice (some ⟨g, 0, none⟩) us.length c, .int .i64 sz] 54 (0, 0))
  hbb : base ≤ bb
  row : W.ownsRow base 22 1 (.slice (some ⟨g, 0, none⟩) us.length c) us.length us
  len : us.length = a.length
  segs : ∀ j, j < a.length → OwnU W base (us[j]?.getD undef) (a[j]?.getD [])
  apart : ∀ i j b, i < a.length → j < a.length → i ≠ j → (us[i]?.getD undef).ownBlock = some b → (us[j]?.getD undef).ownBlock ≠ some b

theorem BuS.lt {W : World} {base bb : Nat} {sz : Int} {a : List (List Int)} {g c : Nat} {us : List Value} (h : BuS W base bb sz a g c us) : bb < W.heap.size := (Array.getElem?_eq_some_iff.1 h.box).1
theorem BuS.cells {W : World} {base bb : Nat} {sz : Int} {a : List (List Int)} {g c : Nat} {us : List Value} (h : BuS W base bb sz a g c us) : W.cell? ⟨bb, 0, none⟩ = some (.slice (some ⟨g, 0, none⟩) us.length c) ∧ W.cell? ⟨bb, 1, none⟩ = some (.int .i64 sz) := by
  have := h.box
  simp [World.cell?, this]
theorem BuS.frozen {W : World} {base bb : Nat} {sz : Int} {a : List (List Int)} {g c : Nat} {us : List Value} (h : BuS W base bb sz a g c us) (i : Nat) : W.frozen? ⟨bb, i, none⟩ = false := by
  have := h.box
  simp [World.frozen?, this]
theorem BuS.grow {W : World} {base bb : Nat} {sz : Int} {a : List (List Int)} {g c : Nat} {us : List Value} (h : BuS W base bb sz a g c us) : g < W.heap.size ∧ base ≤ g := by
  have := World.ownsRow.lt h.row g rfl
  exact ⟨this.2, this.1⟩
theorem BuS.cap {W : World} {base bb : Nat} {sz : Int} {a : List (List Int)} {g c : Nat} {us : List Value} (h : BuS W base bb sz a g c us) : us.length ≤ c ∧ c ≤ 9223372036854775807 := by
  obtain ⟨_, ⟨e0, _⟩ | ⟨g', c', cur, e0, hb, hh, hc, hm, _⟩⟩ := h.row
  · cases e0
  · injection e0 with _ _ e3
    subst e3
    unfold maxLen at hm
    exact ⟨hc, by omega⟩
theorem BuS.at_ {W : World} {base bb : Nat} {sz : Int} {a : List (List Int)} {g c : Nat} {us : List Value} (h : BuS W base bb sz a g c us) {j : Nat} (hj : j < a.length) : W.cell? ⟨g, j, none⟩ = some (us[j]?.getD undef) := own_cell h.row (by rw [h.len]; exact hj)
theorem BuS.on {W W' : World} {base bb : Nat} {sz : Int} {a : List (List Int)} {g c : Nat} {us : List Value} (h : BuS W base bb sz a g c us) (hB : Below W.heap.size W W') : BuS W' base bb sz a g c us :=
  ⟨(hB.block bb h.lt).trans h.box, h.hbb, own_on h.row hB, h.len, fun j hj => (h.segs j hj).on hB, h.apart⟩
theorem BuS.arV {W : World} {base bb : Nat} {sz : Int} {a : List (List Int)} {g c : Nat} {us : List Value} (h : BuS W base bb sz a g c us) : ArV W W.heap.size (.slice (some ⟨g, 0, none⟩) us.length c) a :=
  OwnA.arV (base := base) ⟨us, h.len, by rw [← h.len]; exact h.row, h.segs⟩
/-- a segment as it stands -/
theorem BuS.seg {W : World} {base bb : Nat} {sz : Int} {a : List (List Int)} {g c : Nat} {us : List Value} (h : BuS W base bb sz a g c us) {j : Nat} (hj : j < a.length) : ∃ A k, us[j]?.getD undef = .slice A (a[j]?.getD []).length k := by
  obtain ⟨A, k, e, _⟩ := OwnN.numS (q := .u64) (t := 44) (h.segs j hj)
  exact ⟨A, k, e⟩
theorem BuS.blocks {W : World} {base bb : Nat} {sz : Int} {a : List (List Int)} {g c : Nat} {us : List Value} (h : BuS W base bb sz a g c us) {j b : Nat} (hj : j < a.length) (hb : (us[j]?.getD undef).ownBlock = some b) : b ≠ g ∧ b ≠ bb ∧ base ≤ b ∧ b < W.heap.size := by
  obtain ⟨cur, e1, e2⟩ := own_cells (h.segs j hj) hb
  refine ⟨fun e => ?_, fun e => ?_, e2, (World.ownsRow.lt (h.segs j hj) b hb).2⟩
  · subst e
    exact own_type h.row (h.segs j hj) (by decide) rfl hb
  · subst e
    rw [h.box] at e1
    simp at e1
theorem BuS.row_box {W : World} {base bb : Nat} {sz : Int} {a : List (List Int)} {g c : Nat} {us : List Value} (h : BuS W base bb sz a g c us) : g ≠ bb := by
  intro e
  obtain ⟨cur, e1, e2⟩ := own_cells h.row rfl
  rw [e, h.box] at e1
  simp at e1
theorem getD_set {α : Type} {l : List α} {i j : Nat} {x d : α} (h : i < l.length) : (l.set i x)[j]?.getD d = if i = j then x else l[j]?.getD d := by
  rw [List.getElem?_set]
  split
  · rename_i e
    subst e
    rfl
  · rfl
/-- a word is set -/
theorem BuS.put {W : World} {base bb : Nat} {sz : Int} {a : List (List Int)} {g c : Nat} {us : List Value} (h : BuS W base bb sz a g c us) {s i gs k : Nat} (hs : s < a.length) (hu : us[s]?.getD undef = .slice (some ⟨gs, 0, none⟩) (a[s]?.getD []).length k) (x : Int) :
    BuS (W.setCell ⟨gs, i, none⟩ (.int .u64 x)) base bb sz (setA a s i x) g c us := by
  have hb := h.blocks hs (b := gs) (by rw [hu]; rfl)
  have hg := grown_set W gs i (.int .u64 x)
  refine ⟨?_, h.hbb, own_kept2 h.row hg (fun b e1 e2 => ?_), by rw [setA_len]; exact h.len, fun j hj => ?_, fun i' j b hi' hj => h.apart i' j b (by rw [setA_len] at hi'; exact hi') (by rw [setA_len] at hj; exact hj)⟩
  · rw [blk_setCell_other _ _ _ _ (by exact fun e => hb.2.1 e.symm)]
    exact h.box
  · cases e1
    cases e2
    exact hb.1 rfl
  · rw [setA_len] at hj
    unfold setA
    rw [getD_set hs]
    split
    · rename_i e
      subst e
      rw [hu]
      have := h.segs s hs
      rw [hu] at this
      exact this.set rfl x
    · rename_i e
      exact own_kept2 (h.segs j hj) hg (fun b e1 e2 => by
        cases e2
        exact h.apart s j gs hs hj e (by rw [hu]; rfl) e1)
theorem KeepR.cell {base bb : Nat} {W X : World} (h : KeepR base (some bb) W X) {g i : Nat} {v : Value} (hb : base ≤ g) (hx : base ≤ X.heap.size) (hp : ∀ o, X.heap[g]? = some o → plainO o = false) : KeepR base (some bb) W (X.setCell ⟨g, i, none⟩ v) :=
  h.grown (grown_set X g i v) hx (fun r e => by cases e; exact ⟨hb, .inr hp⟩)
theorem KeepR.box {base bb : Nat} {W X : World} (h : KeepR base (some bb) W X) {i : Nat} {v : Value} (hb : base ≤ bb) (hx : base ≤ X.heap.size) : KeepR base (some bb) W (X.setCell ⟨bb, i, none⟩ v) :=
  h.grown (grown_set X bb i v) hx (fun r e => by cases e; exact ⟨hb, .inl rfl⟩)
theorem plain_u {W : World} {base : Nat} {v : Value} {xs : List Int} {b : Nat} (h : OwnU W base v xs) (hb : v.ownBlock = some b) : ∀ o, W.heap[b]? = some o → plainO o = false := by
  intro o ho
  obtain ⟨cur, e1, _⟩ := own_cells h hb
  rw [e1] at ho
  cases ho
  rfl
theorem plain_row {W : World} {base bb : Nat} {sz : Int} {a : List (List Int)} {g c : Nat} {us : List Value} (h : BuS W base bb sz a g c us) : ∀ o, W.heap[g]? = some o → plainO o = false := by
  intro o ho
  obtain ⟨cur, e1, _⟩ := own_cells h.row rfl
  rw [e1] at ho
  cases ho
  rfl
theorem BuS.put_keep {W : World} {base bb : Nat} {sz : Int} {a : List (List Int)} {g c : Nat} {us : List Value} (h : BuS W base bb sz a g c us) {s i gs k : Nat} (hs : s < a.length) (hu : us[s]?.getD undef = .slice (some ⟨gs, 0, none⟩) (a[s]?.getD []).length k) (v : Value) : KeepR base (some bb) W (W.setCell ⟨gs, i, none⟩ v) := by
  have hb := h.blocks hs (b := gs) (by rw [hu]; rfl)
  exact (KeepR.refl _ _ _).cell hb.2.2.1 (by omega) (plain_u (h.segs s hs) (by rw [hu]; rfl))
/-- a segment is another one, longer, perhaps elsewhere: its row grows; then it is stored -/
theorem BuS.swap {W W1 : World} {base bb : Nat} {sz : Int} {a : List (List Int)} {g c : Nat} {us : List Value} (h : BuS W base bb sz a g c us) {s : Nat} (hs : s < a.length) {v' : Value} {l' : List Int} (hg : W.grownBy W1 (us[s]?.getD undef).ownBlock) (ho : OwnU W1 base v' l')
    (hn : v'.ownBlock = (us[s]?.getD undef).ownBlock ∨ ∀ b, v'.ownBlock = some b → W.heap.size ≤ b) :
    BuS (W1.setCell ⟨g, s, none⟩ v') base bb sz (a.set s l') g c (us.set s v') ∧ KeepR base (some bb) W (W1.setCell ⟨g, s, none⟩ v') ∧ W1.cell? ⟨g, s, none⟩ = some (us[s]?.getD undef) ∧ W1.frozen? ⟨g, s, none⟩ = false ∧ W1.cell? ⟨bb, 0, none⟩ = some (.slice (some ⟨g, 0, none⟩) us.length c) := by
  have hz := hg.size
  have hlt := h.lt
  have hbb := h.hbb
  have hrow : W1.ownsRow base 22 1 (.slice (some ⟨g, 0, none⟩) us.length c) us.length us := own_kept2 h.row hg (fun b e1 e2 => by
    cases e1
    exact (h.blocks hs e2).1 rfl)
  have hbox : W1.heap[bb]? = some (.cells #[.slice (some ⟨g, 0, none⟩) us.length c, .int .i64 sz] 54 (0, 0)) := (hg.block bb hlt (fun e => (h.blocks hs e.symm).2.1 rfl)).trans h.box
  have hseg : ∀ j, j < a.length → s ≠ j → OwnU W1 base (us[j]?.getD undef) (a[j]?.getD []) := fun j hj hne => own_kept2 (h.segs j hj) hg (fun b e1 e2 => h.apart s j b hs hj hne e2 e1)
  have hgs := grown_set W1 g s v'
  have hne := h.row_box
  have hlen : s < us.length := by rw [h.len]; exact hs
  have e0 : us.length = (us.set s v').length := by rw [List.length_set]
  have hp : ∀ o, W1.heap[g]? = some o → plainO o = false := fun o ho => by
    obtain ⟨cur, e1, _⟩ := own_cells hrow rfl
    rw [e1] at ho
    cases ho
    rfl
  refine ⟨⟨?_, hbb, ?_, by rw [List.length_set, List.length_set]; exact h.len, fun j hj => ?_, fun i j b hi hj hij => ?_⟩, ?_, own_cell hrow hlen, own_frozen hrow, by simp [World.cell?, hbox]⟩
  · rw [blk_setCell_other _ _ _ _ (by exact fun e => hne e.symm), ← e0]
    exact hbox
  · rw [← e0]
    exact own_setV hrow v'
  · rw [List.length_set] at hj
    rw [getD_set hlen, getD_set hs]
    split
    · exact own_kept2 ho hgs (fun b e1 e2 => by
        cases e2
        exact own_type hrow ho (by decide) rfl e1)
    · rename_i e
      exact own_kept2 (hseg j hj e) hgs (fun b e1 e2 => by
        cases e2
        exact own_type hrow (hseg j hj e) (by decide) rfl e1)
  · rw [List.length_set] at hi hj
    rw [getD_set hlen, getD_set hlen]
    have new : ∀ k b, k < a.length → s ≠ k → v'.ownBlock = some b → (us[k]?.getD undef).ownBlock ≠ some b := fun k b hk hsk e1 e2 => by
      rcases hn with e | e
      · exact h.apart s k b hs hk hsk (by rw [← e]; exact e1) e2
      · have := e b e1
        have := (h.blocks hk e2).2.2.2
        omega
    split
    · rename_i e
      subst e
      rw [if_neg hij]
      exact new j b hj hij
    · rename_i e
      split
      · rename_i e2
        subst e2
        intro e1 e3
        exact new i b hi e e3 e1
      · exact h.apart i j b hi hj hij
  · refine ((KeepR.refl base (some bb) W).grown hg (by omega) (fun r e => ?_)).cell h.grow.2 (by omega) hp
    exact ⟨(h.blocks hs e).2.2.1, .inr (plain_u (h.segs s hs) e)⟩
/-- a segment more -/
theorem BuS.more {W : World} {base bb : Nat} {sz : Int} {a : List (List Int)} {g c : Nat} {us : List Value} (h : BuS W base bb sz a g c us) (ty : Nat) (hsm : a.length ≤ 1000000) :
    ∃ g' c' W2, (Builtin.append_ #[34, 34] ty #[.slice (some ⟨g, 0, none⟩) us.length c, .slice (some ⟨W.heap.size, 0, none⟩) 1 1]).run Tryd.prog (W.alloc (.cells #[.slice none 0 0] 22)) = .ok (.slice (some ⟨g', 0, none⟩) (us.length + 1) c') W2 ∧
      BuS (W2.setCell ⟨bb, 0, none⟩ (.slice (some ⟨g', 0, none⟩) (us.length + 1) c')) base bb sz (a ++ [[]]) g' c' (us ++ [.slice none 0 0]) ∧ KeepR base (some bb) W (W2.setCell ⟨bb, 0, none⟩ (.slice (some ⟨g', 0, none⟩) (us.length + 1) c')) ∧ W2.cell? ⟨bb, 0, none⟩ = some (.slice (some ⟨g, 0, none⟩) us.length c) ∧ W2.frozen? ⟨bb, 0, none⟩ = false := by
  obtain ⟨i0, hi, hz0, hz1, hz2⟩ := info_parts Tryd.info22
  have hlt := h.lt
  have hbb := h.hbb
  have hul : us.length ≤ 1000000 := by rw [h.len]; exact hsm
  obtain ⟨v', W2, hrun, ho, hg, _, hl⟩ := run_append_own_at (P := Tryd.prog) (w := W.alloc (.cells #[.slice none 0 0] 22)) base 34 ty 22 i0 _ 1 24 Tryd.underlying34 hi hz0 hz1 hz2 rfl (by decide) _ us.length us (World.ownsRow.alloc h.row _) ⟨W.heap.size, 0, none⟩ 1 1 [.slice none 0 0] rfl (cell_one_new _ _ _) (fun u hu => by simp at hu; subst hu; rfl) (by unfold maxLen; omega) (by omega) (by simp; omega)
  obtain ⟨g', c', rfl⟩ := ownsRow_succ ho
  have hz : W.heap.size + 1 ≤ W2.heap.size := by have := hg.size; rwa [World.size_alloc] at this
  have hB : Below W.heap.size W (W.alloc (.cells #[.slice none 0 0] 22)) := (Below.refl _ _).alloc (Nat.le_refl _) _
  have h1 := h.on hB
  have hbox : W2.heap[bb]? = some (.cells #[.slice (some ⟨g, 0, none⟩) us.length c, .int .i64 sz] 54 (0, 0)) := (hg.block bb h1.lt (fun e => by cases e; exact h.row_box rfl)).trans h1.box
  have hseg : ∀ j, j < a.length → OwnU W2 base (us[j]?.getD undef) (a[j]?.getD []) := fun j hj => own_kept2 (h1.segs j hj) hg (fun b e1 e2 => by
    cases e2
    exact (h.blocks hj e1).1 rfl)
  have hgs := grown_set W2 bb 0 (.slice (some ⟨g', 0, none⟩) (us.length + 1) c')
  have e0 : (us ++ [Value.slice none 0 0]).length = us.length + 1 := by simp
  have hne2 : ∀ {e n : Nat} {v : Value} {xs : List Value}, e ≠ 54 → W2.ownsRow base e 1 v n xs → ∀ b, v.ownBlock = some b → some bb ≠ some b := fun he hr b e1 e2 => by
    cases e2
    obtain ⟨cur, e3, _⟩ := own_cells hr e1
    rw [hbox] at e3
    simp at e3
    exact he e3.2.symm
  refine ⟨g', c', W2, hrun, ⟨?_, hbb, ?_, by rw [e0, List.length_append, h.len]; rfl, fun j hj => ?_, fun i j b hi hj hij => ?_⟩, ?_, by simp [World.cell?, hbox], by simp [World.frozen?, hbox]⟩
  · rw [e0]
    simp [World.setCell, Array.getElem?_modify, hbox]
  · rw [e0]
    exact own_kept2 ho hgs (fun b e1 => hne2 (by decide) ho b e1)
  · rw [List.length_append] at hj
    simp only [List.length_cons, List.length_nil] at hj
    by_cases e : j < a.length
    · rw [List.getElem?_append_left (by rw [h.len]; exact e), List.getElem?_append_left e]
      exact own_kept2 (hseg j e) hgs (fun b e1 => hne2 (by decide) (hseg j e) b e1)
    · obtain rfl : j = a.length := by omega
      rw [List.getElem?_append_right (by rw [h.len]; exact Nat.le_refl _), List.getElem?_append_right (Nat.le_refl _), h.len, Nat.sub_self]
      exact OwnU.nil _ _
  · rw [List.length_append] at hi hj
    simp only [List.length_cons, List.length_nil] at hi hj
    by_cases ei : i < a.length
    · rw [List.getElem?_append_left (by rw [h.len]; exact ei)]
      by_cases ej : j < a.length
      · rw [List.getElem?_append_left (by rw [h.len]; exact ej)]
        exact h.apart i j b ei ej hij
      · obtain rfl : j = a.length := by omega
        rw [List.getElem?_append_right (by rw [h.len]; exact Nat.le_refl _), h.len, Nat.sub_self]
        simp [Value.ownBlock]
    · obtain rfl : i = a.length := by omega
      rw [List.getElem?_append_right (by rw [h.len]; exact Nat.le_refl _), h.len, Nat.sub_self]
      simp [Value.ownBlock]
  · refine (((KeepR.refl base (some bb) W).alloc (by omega) _).grown hg (by simp; omega) (fun r e => ?_)).box hbb (by omega)
    cases e
    exact ⟨h.grow.2, .inr (plain_row h1)⟩

end Go.Proofs.YtofpjcmcpejnfaaDoor
