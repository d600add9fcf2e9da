/-
  Layer 5: rows of keys and their times, of the call's own, as the document's answer has them.
-/
import Derived.Test.YtlhfgiffdfcplaaSpanMem
import Derived.Test.YtlhfgiffdfcplaaBytesRow
import Derived.Test.YtlhfgiffdfcplaaBytesKeep
import Derived.Deep.OwnRows
import Derived.Lib.AppendZeros
import Derived.Deep.QuietTactic
import Derived.BigQuiet
import Derived.IntWalk
namespace Go.Proofs.Ytlhfgiffdfcplaa
open Go.RowKit Go.Deep

theorem Try.info63 : (Try.prog.info? 63).map (fun i => (i.zero, i.size, i.bytes)) = some (some (.agg #[.int .i64 0, .int .i64 0]), 2, 16) := by kernel_rfl
/-- the cells of spans -/
def cellsT (l : List Sp) : List Value := l.flatMap (fun s => [Value.int .i64 s.1, Value.int .i64 s.2])
theorem cellsT_length (l : List Sp) : (cellsT l).length = l.length * 2 := by
  induction l with
  | nil => rfl
  | cons s l ih => simp only [cellsT, List.flatMap_cons, List.length_append, List.length_cons, List.length_nil] at ih ⊢; omega
theorem cellsT_snoc (l : List Sp) (s : Sp) : cellsT (l ++ [s]) = cellsT l ++ [.int .i64 s.1, .int .i64 s.2] := by simp [cellsT]
theorem cellsT_get (l : List Sp) (j : Nat) (hj : j < l.length) : (cellsT l)[j * 2]? = some (.int .i64 (l[j]?.getD (0, 0)).1) ∧ (cellsT l)[j * 2 + 1]? = some (.int .i64 (l[j]?.getD (0, 0)).2) := by
  induction l generalizing j with
  | nil => simp at hj
  | cons s l ih =>
    have e : cellsT (s :: l) = .int .i64 s.1 :: .int .i64 s.2 :: cellsT l := by simp [cellsT]
    rw [e]
    cases j with
    | zero => simp
    | succ j =>
      have := ih j (by simpa using hj)
      rw [show (j + 1) * 2 = j * 2 + 1 + 1 by omega]
      simpa using this
/-- v is a row of spans of the call's own, from block 'base' on -/
def OwnT (w : World) (base : Nat) (v : Value) (l : List Sp) : Prop := w.ownsRow base 63 2 v l.length (cellsT l)
theorem OwnT.nil (w : World) (base : Nat) : OwnT w base (.slice none 0 0) [] := World.ownsRow_nil _ _ _ _
theorem OwnT.spans {w : World} {base : Nat} {v : Value} {l : List Sp} (h : OwnT w base v l) : Spans w w.heap.size v l := by
  have h0 := h
  obtain ⟨h1, ⟨rfl, hn⟩ | ⟨g, cap, cur, rfl, hb, hh, hc, hm, hs, ht⟩⟩ := h
  · have e : l = [] := List.eq_nil_of_length_eq_zero hn
    subst e
    exact nil_spans _ _
  · refine ⟨_, cap, rfl, hc, by unfold maxLen at hm; omega, fun hp => ⟨g, 0, rfl, ?_, fun j hj => ?_⟩⟩
    · rcases Nat.lt_or_ge g w.heap.size with hlt | hge
      · exact hlt
      · rw [Array.getElem?_eq_none hge] at hh; cases hh
    · obtain ⟨c1, c2⟩ := cellsT_get l j hj
      have e : ∀ k, k < l.length * 2 → w.cell? ⟨g, k, none⟩ = (cellsT l)[k]? := fun k hk => by
        rw [← ht, List.getElem?_take_of_lt hk]
        simp [World.cell?, hh]
      rw [Nat.zero_add, e _ (by omega), e _ (by omega)]
      exact ⟨c1, c2⟩
theorem OwnT.on {w w' : World} {base : Nat} {v : Value} {l : List Sp} (h : OwnT w base v l) (hB : Below w.heap.size w w') : OwnT w' base v l := by
  obtain ⟨h1, h2 | ⟨g, c, cur, e, hg, hh, r⟩⟩ := h
  · exact ⟨h1, .inl h2⟩
  · refine ⟨h1, .inr ⟨g, c, cur, e, hg, ?_, r⟩⟩
    rw [hB.block g ?_]
    · exact hh
    · rcases Nat.lt_or_ge g w.heap.size with hlt | hge
      · exact hlt
      · rw [Array.getElem?_eq_none hge] at hh; cases hh
/-- append(v, s) -/
theorem append_t (w : World) (base ty : Nat) (v : Value) (l : List Sp) (x y : Int) (hown : OwnT w base v l) (hk : l.length ≤ 1000000000) (hbase : base ≤ w.heap.size) :
    ∃ v' w', (Builtin.append_ #[26, 26] ty #[v, .slice (some ⟨w.heap.size, 0, none⟩) 1 1]).run Try.prog (w.alloc (.cells #[.int .i64 x, .int .i64 y] 63)) = .ok v' w' ∧ OwnT w' base v' (l ++ [(x, y)]) ∧ (w.alloc (.cells #[.int .i64 x, .int .i64 y] 63)).grownBy w' v.ownBlock := by
  obtain ⟨i0, hi, hz0, hz1, hz2⟩ := info_parts Try.info63
  have hB : Below w.heap.size w (w.alloc (.cells #[.int .i64 x, .int .i64 y] 63)) := (Below.refl _ _).alloc (Nat.le_refl _) _
  obtain ⟨v', w', hrun, ho, hg, _⟩ := run_append_own (P := Try.prog) (w := w.alloc (.cells #[.int .i64 x, .int .i64 y] 63)) base 26 ty 63 i0 _ 2 16 Try.underlying26 hi hz0 hz1 hz2 rfl (by decide) v l.length (cellsT l) (hown.on hB) ⟨w.heap.size, 0, none⟩ 1 1 [.int .i64 x, .int .i64 y] rfl
    (fun j u hu => by
      match j, hu with
      | 0, hu => simp at hu; subst hu; simp [Addr.add]
      | 1, hu => simp at hu; subst hu; simp [Addr.add])
    (fun u hu => by simp at hu; rcases hu with rfl | rfl <;> rfl) (by unfold maxLen; omega) (by omega) (by simp; omega)
  refine ⟨v', w', hrun, ?_, hg⟩
  unfold OwnT
  rw [cellsT_snoc, List.length_append]
  exact ho
/-- a box of one span -/
def BoxT (w : World) (g : Nat) (x y : Int) : Prop := w.heap[g]? = some (.cells #[.int .i64 x, .int .i64 y] 63 (0, 0))
theorem BoxT.cells {w : World} {g : Nat} {x y : Int} (h : BoxT w g x y) : w.cell? ⟨g, 0, none⟩ = some (.int .i64 x) ∧ w.cell? ⟨g, 1, none⟩ = some (.int .i64 y) := by
  unfold BoxT at h
  simp [World.cell?, h]
theorem BoxT.frozen {w : World} {g : Nat} {x y : Int} (h : BoxT w g x y) (j : Nat) : w.frozen? ⟨g, j, none⟩ = false := by
  unfold BoxT at h
  simp [World.frozen?, h]
theorem BoxT.of_block {w w' : World} {g : Nat} {x y : Int} (h : BoxT w g x y) (e : w'.heap[g]? = w.heap[g]?) : BoxT w' g x y := e.trans h
theorem BoxT.lt {w : World} {g : Nat} {x y : Int} (h : BoxT w g x y) : g < w.heap.size := (Array.getElem?_eq_some_iff.1 h).1
theorem BoxT.new (w : World) (x y : Int) : BoxT (w.alloc (.cells #[.int .i64 x, .int .i64 y] 63)) w.heap.size x y := by unfold BoxT; rw [blk_alloc_new]
theorem BoxT.set {w : World} {g : Nat} {x y : Int} (h : BoxT w g x y) (x' y' : Int) : BoxT ((w.setCell ⟨g, 0, none⟩ (.int .i64 x')).setCell ⟨g, 1, none⟩ (.int .i64 y')) g x' y' := by
  unfold BoxT at h ⊢
  simp [World.setCell, Array.getElem?_modify, h]
theorem drop_consT {l : List Sp} {t : Nat} (h : t < l.length) : l.drop t = l[t]?.getD (0, 0) :: l.drop (t + 1) := by
  rw [List.drop_eq_getElem_cons h, List.getElem?_eq_getElem h]; rfl
theorem OwnT.setOther {w : World} {base g : Nat} {v : Value} {l : List Sp} (h : OwnT w base v l) (hg : g < base) (j : Nat) (x : Value) : OwnT (w.setCell ⟨g, j, none⟩ x) base v l := by
  obtain ⟨h1, h2 | ⟨k, c, cur, e, hk, hh, r⟩⟩ := h
  · exact ⟨h1, .inl h2⟩
  · exact ⟨h1, .inr ⟨k, c, cur, e, hk, (blk_setCell_other _ _ _ _ (by show k ≠ g; omega)).trans hh, r⟩⟩
theorem OwnT.base {w : World} {base base' : Nat} {v : Value} {l : List Sp} (h : OwnT w base v l) (hb : base' ≤ base) : OwnT w base' v l := by
  obtain ⟨h1, h2 | ⟨g, c, cur, e, hg, r⟩⟩ := h
  · exact ⟨h1, .inl h2⟩
  · exact ⟨h1, .inr ⟨g, c, cur, e, by omega, r⟩⟩
theorem app_belowT {w0 W w' : World} {base : Nat} {v v' : Value} {out : List Sp} {x y : Int} (hown : OwnT W base v out) (hb : base = w0.heap.size) (hB : Below w0.heap.size w0 W) (hg : (W.alloc (.cells #[.int .i64 x, .int .i64 y] 63)).grownBy w' v.ownBlock) (ho' : OwnT w' base v' (out ++ [(x, y)])) :
    OwnT w' base v' (out ++ [(x, y)]) ∧ Below w0.heap.size w0 w' := by
  subst hb
  refine ⟨ho', (hB.alloc hB.size _).grown hg (by have := hB.size; simp; omega) (fun k e => (World.ownsRow.lt hown k e).1)⟩
theorem OwnT.form {w : World} {base : Nat} {v : Value} {l : List Sp} (h : OwnT w base v l) (hn : 0 < l.length) : ∃ g cap, v = .slice (some ⟨g, 0, none⟩) l.length cap ∧ base ≤ g ∧ g < w.heap.size := by
  have hlt := World.ownsRow.lt h
  obtain ⟨_, ⟨_, h0⟩ | ⟨g, cap, cur, rfl, _⟩⟩ := h
  · omega
  · obtain ⟨h1, h2⟩ := hlt g rfl
    exact ⟨g, cap, rfl, h1, h2⟩
/-- a slice of spans copied whole into a row of the call's own that has none -/
theorem append_ts (w : World) (base ty : Nat) (v : Value) (l m : List Sp) (A : Addr) (c B : Nat) (hs : Spans w B (.slice (some A) m.length c) m) (hown : OwnT w base v l) (hk : l.length + m.length ≤ 1000000000) (hbase : base ≤ w.heap.size) :
    ∃ v' w', (Builtin.append_ #[26, 26] ty #[v, .slice (some A) m.length c]).run Try.prog w = .ok v' w' ∧ OwnT w' base v' (l ++ m) ∧ w.grownBy w' v.ownBlock := by
  obtain ⟨i0, hi, hz0, hz1, hz2⟩ := info_parts Try.info63
  obtain ⟨A', c', e, hc, hm, hr⟩ := hs
  cases e
  obtain ⟨v', w', hrun, ho, hg, _⟩ := run_append_own (P := Try.prog) (w := w) base 26 ty 63 i0 _ 2 16 Try.underlying26 hi hz0 hz1 hz2 rfl (by decide) v l.length (cellsT l) hown A m.length c (cellsT m) (cellsT_length m)
    (fun j u hu => by
      have hj : j < m.length * 2 := by
        have := (List.getElem?_eq_some_iff.1 hu).1
        rwa [cellsT_length] at this
      obtain ⟨b, off, ea, _, hcell⟩ := hr (by omega)
      cases ea
      have h1 := hcell (j / 2) (by omega)
      have h2 := cellsT_get m (j / 2) (by omega)
      have e1 : (⟨b, off, none⟩ : Addr).add j = ⟨b, off + j, none⟩ := by simp [Addr.add]
      rw [e1]
      rcases Nat.mod_two_eq_zero_or_one j with h | h
      · have ej : j / 2 * 2 = j := by omega
        rw [ej] at h1 h2
        rw [h1.1, ← h2.1, hu]
      · have ej : j / 2 * 2 + 1 = j := by omega
        rw [Nat.add_assoc, ej] at h1
        rw [ej] at h2
        rw [h1.2, ← h2.2, hu])
    (fun u hu => by simp only [cellsT, List.mem_flatMap] at hu; obtain ⟨s, _, hu⟩ := hu; simp at hu; rcases hu with rfl | rfl <;> rfl) (by unfold maxLen; omega) (by omega) (by omega)
  refine ⟨v', w', hrun, ?_, hg⟩
  unfold OwnT
  rw [show cellsT (l ++ m) = cellsT l ++ cellsT m by simp [cellsT], List.length_append]
  exact ho
theorem append_anyT (w : World) (base ty : Nat) (v u : Value) (l m : List Sp) (B : Nat) (hs : Spans w B u m) (hown : OwnT w base v l) (hk : l.length + m.length ≤ 1000000000) (hbase : base ≤ w.heap.size) :
    ∃ v' w', (Builtin.append_ #[26, 26] ty #[v, u]).run Try.prog w = .ok v' w' ∧ OwnT w' base v' (l ++ m) ∧ w.grownBy w' v.ownBlock := by
  obtain ⟨A, c, rfl, hc, hm, hr⟩ := hs
  cases A with
  | some A => exact append_ts w base ty v l m A c B ⟨some A, c, rfl, hc, hm, hr⟩ hown hk hbase
  | none =>
    have hl : m = [] := by
      rcases Nat.eq_zero_or_pos m.length with h | h
      · exact List.eq_nil_of_length_eq_zero h
      · obtain ⟨b, off, e, _⟩ := hr h; cases e
    subst hl
    obtain ⟨i0, hi, _, _, _⟩ := info_parts Try.info63
    have hrun : (Builtin.append_ #[26, 26] ty #[v, .slice none 0 c]).run Try.prog w = .ok v w := by
      have ht := Try.underlying26
      rcases hown.2 with ⟨rfl, h0⟩ | ⟨g, cap, cur, rfl, _, _, hnc, _⟩
      · simp [Builtin.append_, run_underlying ht, sizeOf, typeInfo, hi, Builtin.lenOf, Builtin.firstCells]
      · simp [Builtin.append_, run_underlying ht, sizeOf, typeInfo, hi, Builtin.lenOf, Builtin.firstCells, hnc, storeCells]
    exact ⟨v, w, hrun, by rw [List.append_nil]; exact hown, ⟨rfl, rfl, rfl, Nat.le_refl _, fun _ _ _ => rfl⟩⟩

end Go.Proofs.Ytlhfgiffdfcplaa
