/-
  Layer 7: an arena of the call's own: a row of rows of words.
-/
import Derived.Test.YthinhknfiaohlaaArBytes
namespace Go.Proofs.Ythinhknfiaohlaa
open Go.RowKit Go.Deep

theorem Try.info44 : (Try.prog.info? 44).map (fun i => (i.zero, i.size, i.bytes)) = some (some (.int .u64 0), 1, 8) := by kernel_rfl
theorem Try.info42 : (Try.prog.info? 42).map (fun i => (i.zero, i.size, i.bytes)) = some (some (.slice none 0 0), 1, 24) := by kernel_rfl
def OwnU (w : World) (base : Nat) (v : Value) (xs : List Int) : Prop := OwnN .u64 44 w base v xs
theorem OwnU.nil (w : World) (base : Nat) : OwnU w base (.slice none 0 0) [] := World.ownsRow_nil _ _ _ _
theorem OwnU.on {w w' : World} {base : Nat} {v : Value} {xs : List Int} (h : OwnU w base v xs) (hB : Below w.heap.size w w') : OwnU w' base v xs := own_on h hB
theorem OwnU.base {w : World} {base base' : Nat} {v : Value} {xs : List Int} (h : OwnU w base v xs) (hb : base' ≤ base) : OwnU w base' v xs := own_base h hb
theorem append_u (w : World) (base ty : Nat) (v : Value) (xs : List Int) (x : Int) (hown : OwnU w base v xs) (hk : xs.length ≤ 1000000000000) (hbase : base ≤ w.heap.size) :
    ∃ v' w', (Builtin.append_ #[42, 42] ty #[v, .slice (some ⟨w.heap.size, 0, none⟩) 1 1]).run Try.prog (w.alloc (.cells #[.int .u64 x] 44)) = .ok v' w' ∧ OwnU w' base v' (xs ++ [x]) ∧ (w.alloc (.cells #[.int .u64 x] 44)).grownBy w' v.ownBlock := by
  obtain ⟨i0, hi, hz0, hz1, hz2⟩ := info_parts Try.info44
  obtain ⟨v', w', hrun, ho, hg, _, hl⟩ := run_append_own_at (P := Try.prog) (w := w.alloc (.cells #[.int .u64 x] 44)) base 42 ty 44 i0 _ 1 8 Try.underlying42 hi hz0 hz1 hz2 rfl (by decide) v xs.length (xs.map (Value.int .u64)) (World.ownsRow.alloc hown _) ⟨w.heap.size, 0, none⟩ 1 1 [.int .u64 x] rfl (cell_one_new _ _ _) (fun u hu => by simp at hu; subst hu; rfl) (by unfold maxLen; omega) (by omega) (by simp; omega)
  refine ⟨v', w', hrun, ?_, hg⟩
  unfold OwnU OwnN
  rw [List.length_append, List.map_append]
  exact ho
/-- an arena of the call's own -/
def OwnA (w : World) (base : Nat) (v : Value) (ls : List (List Int)) : Prop :=
  ∃ vs : List Value, vs.length = ls.length ∧ w.ownsRow base 42 1 v ls.length vs ∧ ∀ j, j < ls.length → OwnU w base (vs[j]?.getD undef) (ls[j]?.getD [])
theorem OwnA.nil (w : World) (base : Nat) : OwnA w base (.slice none 0 0) [] := ⟨[], rfl, World.ownsRow_nil _ _ _ _, fun j hj => by simp at hj⟩
theorem OwnA.on {w w' : World} {base : Nat} {v : Value} {ls : List (List Int)} (h : OwnA w base v ls) (hB : Below w.heap.size w w') : OwnA w' base v ls := by
  obtain ⟨vs, h1, h2, h3⟩ := h
  exact ⟨vs, h1, own_on h2 hB, fun j hj => (h3 j hj).on hB⟩
theorem OwnA.arV {w : World} {base : Nat} {v : Value} {ls : List (List Int)} (h : OwnA w base v ls) : ArV w w.heap.size v ls := by
  obtain ⟨vs, h1, h2, h3⟩ := h
  have h0 := h2
  obtain ⟨_, ⟨rfl, hn⟩ | ⟨g, cap, cur, rfl, hb, hh, hc, hm, hs, ht⟩⟩ := h2
  · exact ⟨none, 0, by rw [hn], by omega, by omega, fun hp => by omega⟩
  · refine ⟨_, cap, rfl, hc, by unfold maxLen at hm; omega, fun hp => ⟨g, 0, rfl, (World.ownsRow.lt h0 g rfl).2, fun j hj => ⟨vs[j]?.getD undef, ?_, OwnN.numS (h3 j hj)⟩⟩⟩
    rw [Nat.zero_add, World.ownsRow.cellAt h0 j (by omega), List.getElem?_eq_getElem (by omega)]
    rfl
theorem own_type {w : World} {base base' e e' n n' g : Nat} {v v' : Value} {xs xs' : List Value} (h : w.ownsRow base e 1 v n xs) (h' : w.ownsRow base' e' 1 v' n' xs') (hne : e ≠ e') (hg : v.ownBlock = some g) : v'.ownBlock ≠ some g := by
  intro e2
  obtain ⟨_, ⟨rfl, _⟩ | ⟨g1, c1, cur1, rfl, _, hh1, _⟩⟩ := h
  · simp [Value.ownBlock] at hg
  · obtain ⟨_, ⟨rfl, _⟩ | ⟨g2, c2, cur2, rfl, _, hh2, _⟩⟩ := h'
    · simp [Value.ownBlock] at e2
    · simp only [Value.ownBlock, Option.some.injEq] at hg e2
      subst hg
      subst e2
      rw [hh1] at hh2
      simp at hh2
      exact hne hh2.2
theorem own_kept2 {w w' : World} {base e n : Nat} {v : Value} {xs : List Value} {r : Option Nat} (h : w.ownsRow base e 1 v n xs) (hg : w.grownBy w' r) (hne : ∀ g, v.ownBlock = some g → r ≠ some g) : w'.ownsRow base e 1 v n xs := by
  obtain ⟨h1, h2 | ⟨g, c, cur, rfl, hk, hh, rr⟩⟩ := h
  · exact ⟨h1, .inl h2⟩
  · exact ⟨h1, .inr ⟨g, c, cur, rfl, hk, (hg.block g (Array.getElem?_eq_some_iff.1 hh).1 (fun e2 => hne g rfl e2.symm)).trans hh, rr⟩⟩
/-- a segment is laid behind the others -/
theorem append_seg (w : World) (base ty : Nat) (v s : Value) (ls : List (List Int)) (x : List Int) (hown : OwnA w base v ls) (hs : OwnU w base s x) (hk : ls.length ≤ 1000000000000) (hbase : base ≤ w.heap.size) :
    ∃ v' w', (Builtin.append_ #[23, 23] ty #[v, .slice (some ⟨w.heap.size, 0, none⟩) 1 1]).run Try.prog (w.alloc (.cells #[s] 42)) = .ok v' w' ∧ OwnA w' base v' (ls ++ [x]) ∧ (w.alloc (.cells #[s] 42)).grownBy w' v.ownBlock := by
  obtain ⟨i0, hi, hz0, hz1, hz2⟩ := info_parts Try.info42
  obtain ⟨vs, h1, h2, h3⟩ := hown
  have hone : s.oneCell' = true := by
    rcases hs.2 with ⟨rfl, _⟩ | ⟨g, c, cur, rfl, _⟩ <;> rfl
  have hB : Below w.heap.size w (w.alloc (.cells #[s] 42)) := (Below.refl _ _).alloc (Nat.le_refl _) _
  obtain ⟨v', w', hrun, ho, hg, _, hl⟩ := run_append_own_at (P := Try.prog) (w := w.alloc (.cells #[s] 42)) base 23 ty 42 i0 _ 1 24 Try.underlying23 hi hz0 hz1 hz2 rfl (by decide) v ls.length vs (World.ownsRow.alloc h2 _) ⟨w.heap.size, 0, none⟩ 1 1 [s] rfl (cell_one_new _ _ _) (fun u hu => by simp at hu; subst hu; exact hone) (by unfold maxLen; omega) (by omega) (by simp; omega)
  have hkeep : ∀ u xs, OwnU w base u xs → OwnU w' base u xs := fun u xs hu => by
    refine own_kept2 (World.ownsRow.alloc hu _) hg (fun g hg2 e => ?_)
    exact own_type (World.ownsRow.alloc hu (.cells #[s] 42)) (World.ownsRow.alloc h2 (.cells #[s] 42)) (by decide) hg2 e
  refine ⟨v', w', hrun, ⟨vs ++ [s], by simp [h1], by rw [List.length_append]; exact ho, fun j hj => ?_⟩, hg⟩
  rw [List.length_append] at hj
  simp only [List.length_cons, List.length_nil] at hj
  by_cases e : j < ls.length
  · rw [List.getElem?_append_left (by omega), List.getElem?_append_left e]
    exact hkeep _ _ (h3 j e)
  · obtain rfl : j = ls.length := by omega
    rw [List.getElem?_append_right (by omega), List.getElem?_append_right (Nat.le_refl _), h1, Nat.sub_self]
    exact hkeep _ _ hs

end Go.Proofs.Ythinhknfiaohlaa
