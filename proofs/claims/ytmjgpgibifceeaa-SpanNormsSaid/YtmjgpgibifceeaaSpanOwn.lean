/-
  Rows of spans of the call's own: append of one span; read as a slice of spans.
-/
import Derived.Test.YtmjgpgibifceeaaSpanMem
import Derived.Test.YtmjgpgibifceeaaBytesKeep
import Derived.Deep.OwnRows
namespace Go.Proofs.Ytmjgpgibifceeaa
open Go.RowKit Go.Deep

theorem Try.info24 : (Try.prog.info? 24).map (fun i => (i.zero, i.size, i.bytes)) = some (some (.agg #[.int .i64 0, .int .i64 0]), 2, 16) := by kernel_rfl
/-- the cells of spans -/
def cellsS (l : List Sp) : List Value := l.flatMap (fun s => [Value.int .i64 s.1, Value.int .i64 s.2])
theorem cellsS_length (l : List Sp) : (cellsS l).length = l.length * 2 := by
  induction l with
  | nil => rfl
  | cons s l ih => simp only [cellsS, List.flatMap_cons, List.length_append, List.length_cons, List.length_nil] at ih ⊢; omega
theorem cellsS_snoc (l : List Sp) (s : Sp) : cellsS (l ++ [s]) = cellsS l ++ [.int .i64 s.1, .int .i64 s.2] := by simp [cellsS]
theorem cellsS_get (l : List Sp) (j : Nat) (hj : j < l.length) : (cellsS l)[j * 2]? = some (.int .i64 (l[j]?.getD (0, 0)).1) ∧ (cellsS l)[j * 2 + 1]? = some (.int .i64 (l[j]?.getD (0, 0)).2) := by
  induction l generalizing j with
  | nil => simp at hj
  | cons s l ih =>
    have e : cellsS (s :: l) = .int .i64 s.1 :: .int .i64 s.2 :: cellsS l := by simp [cellsS]
    rw [e]
    cases j with
    | zero => simp
    | succ j =>
      have := ih j (by simpa using hj)
      rw [show (j + 1) * 2 = j * 2 + 1 + 1 by omega]
      simpa using this
/-- v is a row of spans of the call's own, from block 'base' on -/
def OwnS (w : World) (base : Nat) (v : Value) (l : List Sp) : Prop := w.ownsRow base 24 2 v l.length (cellsS l)
theorem OwnS.nil (w : World) (base : Nat) : OwnS w base (.slice none 0 0) [] := World.ownsRow_nil _ _ _ _
theorem OwnS.spans {w : World} {base : Nat} {v : Value} {l : List Sp} (h : OwnS w base v l) : Spans w w.heap.size v l := by
  have h0 := h
  obtain ⟨h1, ⟨rfl, hn⟩ | ⟨g, cap, cur, rfl, hb, hh, hc, hm, hs, ht⟩⟩ := h
  · have e : l = [] := List.eq_nil_of_length_eq_zero hn
    subst e
    exact nil_spans _ _
  · refine ⟨_, cap, rfl, hc, by unfold maxLen at hm; omega, fun hp => ⟨g, 0, rfl, ?_, fun j hj => ?_⟩⟩
    · rcases Nat.lt_or_ge g w.heap.size with hlt | hge
      · exact hlt
      · rw [Array.getElem?_eq_none hge] at hh; cases hh
    · obtain ⟨c1, c2⟩ := cellsS_get l j hj
      have e : ∀ k, k < l.length * 2 → w.cell? ⟨g, k, none⟩ = (cellsS l)[k]? := fun k hk => by
        rw [← ht, List.getElem?_take_of_lt hk]
        simp [World.cell?, hh]
      rw [Nat.zero_add, e _ (by omega), e _ (by omega)]
      exact ⟨c1, c2⟩
theorem OwnS.on {w w' : World} {base : Nat} {v : Value} {l : List Sp} (h : OwnS w base v l) (hB : Below w.heap.size w w') : OwnS w' base v l := by
  obtain ⟨h1, h2 | ⟨g, c, cur, e, hg, hh, r⟩⟩ := h
  · exact ⟨h1, .inl h2⟩
  · refine ⟨h1, .inr ⟨g, c, cur, e, hg, ?_, r⟩⟩
    rw [hB.block g ?_]
    · exact hh
    · rcases Nat.lt_or_ge g w.heap.size with hlt | hge
      · exact hlt
      · rw [Array.getElem?_eq_none hge] at hh; cases hh
/-- append(v, s) -/
theorem append_span (w : World) (base ty : Nat) (v : Value) (l : List Sp) (x y : Int) (hown : OwnS w base v l) (hk : l.length ≤ 1000000000) (hbase : base ≤ w.heap.size) :
    ∃ v' w', (Builtin.append_ #[22, 22] ty #[v, .slice (some ⟨w.heap.size, 0, none⟩) 1 1]).run Try.prog (w.alloc (.cells #[.int .i64 x, .int .i64 y] 24)) = .ok v' w' ∧ OwnS w' base v' (l ++ [(x, y)]) ∧ (w.alloc (.cells #[.int .i64 x, .int .i64 y] 24)).grownBy w' v.ownBlock := by
  obtain ⟨i0, hi, hz0, hz1, hz2⟩ := info_parts Try.info24
  have hB : Below w.heap.size w (w.alloc (.cells #[.int .i64 x, .int .i64 y] 24)) := (Below.refl _ _).alloc (Nat.le_refl _) _
  obtain ⟨v', w', hrun, ho, hg, _⟩ := run_append_own (P := Try.prog) (w := w.alloc (.cells #[.int .i64 x, .int .i64 y] 24)) base 22 ty 24 i0 _ 2 16 Try.underlying22 hi hz0 hz1 hz2 rfl (by decide) v l.length (cellsS l) (hown.on hB) ⟨w.heap.size, 0, none⟩ 1 1 [.int .i64 x, .int .i64 y] rfl
    (fun j u hu => by
      match j, hu with
      | 0, hu => simp at hu; subst hu; simp [Addr.add]
      | 1, hu => simp at hu; subst hu; simp [Addr.add])
    (fun u hu => by simp at hu; rcases hu with rfl | rfl <;> rfl) (by unfold maxLen; omega) (by omega) (by simp; omega)
  refine ⟨v', w', hrun, ?_, hg⟩
  unfold OwnS
  rw [cellsS_snoc, List.length_append]
  exact ho

end Go.Proofs.Ytmjgpgibifceeaa
