/-
  Layer 7: slices of ints, and arenas, that came in.
-/
import Derived.Test.YtdfldfnjjjcleaaDoorZAr
import Derived.Test.YtdfldfnjjjcleaaDoorZWord
import Derived.Deep.Matrix
import Derived.OpenShut
import Derived.Test.YtdfldfnjjjcleaaDoorZMem
import Derived.Deep.Slices
import Derived.SizedLaws

namespace Go.Proofs.YtdfldfnjjjcleaaDoor
open Go.ChangeShapes Go.WideShapes Go.RowKit Go.Deep

theorem add_at (b off j : Nat) : (⟨b, off, none⟩ : Addr).add j = ⟨b, off + j, none⟩ := by
  by_cases h : j = 0
  · subst h; simp [Addr.add]
  · simp [Addr.add, h]
/-- an arena that came in: its segments; how many words they have, by the reading's bulk -/
theorem arena_in {H : Type} {enc : TypeId × Value → H} {W : World} {a : Option Addr} {len cap : Nat} {d : DataW H} {ps : List MemPlace} (h : DataW.Trod enc Tryd.prog W 0 (fun _ => true) true 23 (.slice a len cap) d ps) :
    ∃ ls : List (List Int), ls.length = len ∧ AllU ls ∧ ArV W W.heap.size (.slice a len cap) ls ∧ (sizesL ls).sum + ls.length ≤ (Rows.uptoBulk d : Int) := by
  obtain ⟨fuel, hf⟩ := h
  rcases open_int_rows Tryd.underlying23 Tryd.underlying34 Tryd.underlying53 (by kernel_rfl) (by kernel_rfl) hf with ⟨hcs, hx⟩ | ⟨x, l0, c0, A, L, C, Z, hcs, _, hl, hm, hx, hrow⟩
  · simp [Value.cells] at hcs
    obtain ⟨rfl, rfl, rfl⟩ := hcs
    refine ⟨[], rfl, fun s hs => by simp at hs, ⟨none, 0, rfl, by simp, by omega, fun h => by simp at h⟩, ?_⟩
    simp [sizesL]
  · simp [Value.cells] at hcs
    obtain ⟨rfl, rfl, rfl⟩ := hcs
    obtain ⟨rfl, -⟩ := Prod.mk.inj hx
    have hg : ∀ r, r < len → (((List.range len).map fun r => (Z r).take (L r))[r]?.getD []) = (Z r).take (L r) := fun r hr => by simp [hr]
    have hz : ∀ r, r < len → ((Z r).take (L r)).length = L r := fun r hr => by
      obtain ⟨_, h2, _, h4, _⟩ := hrow r (by omega)
      rw [List.length_take, h4]
      omega
    refine ⟨(List.range len).map fun r => (Z r).take (L r), by simp, fun s hs y hy => ?_, ⟨some x, cap, by simp, by simpa using hl, by unfold maxLen at hm; omega, fun hp => ?_⟩, ?_⟩
    · obtain ⟨r, hr, rfl⟩ := List.mem_map.1 hs
      have hr' := List.mem_range.1 hr
      obtain ⟨_, _, _, _, h5, _⟩ := hrow r (by omega)
      exact bounds_u64 (h5 y (List.mem_of_mem_take hy))
    · have hp' : 0 < len := by simpa using hp
      obtain ⟨b, off, spot⟩ := x
      have h0 := (hrow 0 (by omega)).1
      have hs : spot = none := by simpa [Addr.add] using World.cell?_spot h0
      subst hs
      have hb := cell_lt h0
      refine ⟨b, off, rfl, by simpa [Addr.add] using hb, fun j hj => ?_⟩
      have hj' : j < len := by simpa using hj
      obtain ⟨c1, c2, c3, c4, c5, c6, c7⟩ := hrow j (by omega)
      rw [add_at] at c1
      refine ⟨_, c1, ?_⟩
      rw [hg j hj']
      refine ⟨A j, C j, by rw [hz j hj'], by rw [hz j hj']; exact c2, by unfold maxLen at c3; omega, fun hp2 => ?_⟩
      rw [hz j hj'] at hp2
      cases hA : A j with
      | none => have := c6 hA; omega
      | some a' =>
        obtain ⟨_, hc⟩ := c7 a' hA
        obtain ⟨g, o, sp⟩ := a'
        have e0 := hc 0 (by omega)
        have hs2 : sp = none := by simpa [Addr.add] using World.cell?_spot e0
        subst hs2
        have hb2 := cell_lt e0
        refine ⟨g, o, rfl, by simpa [Addr.add] using hb2, fun i hi => ?_⟩
        rw [hz j hj'] at hi
        have e1 := hc i (by omega)
        rw [add_at] at e1
        rw [List.getElem?_take_of_lt hi, ← List.getD_eq_getElem?_getD]
        exact e1
    · simp only [Rows.uptoBulk]
      have key : ∀ n, n ≤ len → (sizesL ((List.range n).map fun r => (Z r).take (L r))).sum + n ≤ (Rows.uptoBulkAll ((List.range n).map fun r => intRow (H := H) IntKind.u64 (A r) (L r) (Z r)) : Int) := by
        intro n hn
        induction n with
        | zero => simp [sizesL]
        | succ n ih =>
          have ih' := ih (by omega)
          have hb : (L n : Int) + 1 ≤ Rows.uptoBulk (intRow (H := H) IntKind.u64 (A n) (L n) (Z n)) := by
            obtain ⟨_, h2, _, h4, _, h6, _⟩ := hrow n (by omega)
            cases hA : A n with
            | none =>
              have := h6 hA
              have hL : L n = 0 := by omega
              simp [intRow, Rows.uptoBulk, hL]
            | some a' =>
              have ha : ∀ m : List Int, Rows.uptoBulkAll (lits (H := H) IntKind.u64 m) = m.length := fun m => by
                induction m with
                | nil => simp [lits, Rows.uptoBulkAll]
                | cons y m ih => simp only [lits, List.map_cons, Rows.uptoBulkAll, Rows.uptoBulk, List.length_cons] at ih ⊢; omega
              simp only [intRow, Rows.uptoBulk, ha, List.length_take, List.length_drop]
              omega
          have happ : ∀ l r : List (DataW H), Rows.uptoBulkAll (l ++ r) = Rows.uptoBulkAll l + Rows.uptoBulkAll r := fun l r => by
            induction l with
            | nil => simp [Rows.uptoBulkAll]
            | cons x l ih => simp only [List.cons_append, Rows.uptoBulkAll, ih]; omega
          rw [List.range_succ, List.map_append, List.map_append, happ]
          unfold sizesL at ih' ⊢
          rw [List.map_append, List.sum_append]
          simp only [List.map_cons, List.map_nil, List.sum_cons, List.sum_nil, Rows.uptoBulkAll, hz n (by omega)]
          omega
      have := key len (Nat.le_refl _)
      rw [List.length_map, List.length_range]
      omega

end Go.Proofs.YtdfldfnjjjcleaaDoor

namespace Go.Proofs.YtdfldfnjjjcleaaDoor
open Go.ChangeShapes Go.WideShapes Go.RowKit Go.Deep

/-- what every number of a tree that came in is, and how many there may be -/
def GoodW (k z : Int) (ws bs : List Int) (n : Nat) : Prop :=
  In64 k ∧ In64 z ∧ ws.length ≤ 140737488351232 ∧ bs.length ≤ 140737488351232 ∧ n ≤ 140737488351232 ∧ (∀ x ∈ ws, 0 ≤ x ∧ x ≤ 18446744073709551615) ∧ (∀ x ∈ bs, 0 ≤ x ∧ x ≤ 255)
mutual
/-- the value v is the tree t, all of it below block B; its lists may be as long as there is room -/
def TrW (w : World) (B : Nat) : Tr → Value → Prop
  | .mk k z ws bs ks, v => ∃ vw vb A c, v = .agg (cellsT k z vw vb (.slice A ks.length c)) ∧ GoodW k z ws bs ks.length ∧ NumS .u64 w B vw ws ∧ Bytes w B vb bs ∧ ks.length ≤ c ∧ c ≤ 9223372036854775807 ∧
      (0 < ks.length → ∃ b off, A = some ⟨b, off, none⟩ ∧ b < B ∧ KidsW w B b off ks)
def KidsW (w : World) (B b : Nat) : Nat → List Tr → Prop
  | _, [] => True
  | off, t :: r => (∃ k z vw vb vk, w.cell? ⟨b, off, none⟩ = some (.int .i64 k) ∧ w.cell? ⟨b, off + 1, none⟩ = some (.int .i64 z) ∧ w.cell? ⟨b, off + 2, none⟩ = some vw ∧ w.cell? ⟨b, off + 3, none⟩ = some vb ∧ w.cell? ⟨b, off + 4, none⟩ = some vk ∧ TrW w B t (.agg (cellsT k z vw vb vk))) ∧ KidsW w B b (off + 5) r
end
mutual
/-- things, words and bytes, all together -/
def total : Tr → Nat
  | .mk _ _ ws bs ks => 1 + ws.length + bs.length + totalAll ks
def totalAll : List Tr → Nat
  | [] => 0
  | t :: r => total t + totalAll r
end
theorem total_pos (t : Tr) : 0 < total t := by
  obtain ⟨k, z, ws, bs, ks⟩ := t
  unfold total
  omega
theorem totalAll_len : (l : List Tr) → l.length ≤ totalAll l
  | [] => by simp
  | t :: r => by
    have h1 := total_pos t
    have h2 := totalAll_len r
    unfold totalAll
    simp only [List.length_cons]
    omega
mutual
/-- one that has few things is one of those that the walks are about -/
theorem TrW.small {w : World} {B : Nat} : (t : Tr) → (v : Value) → TrW w B t v → total t ≤ 1000000 → TrV w B t v
  | .mk k z ws bs ks, v, h, ht => by
    unfold TrW at h
    unfold TrV
    have hl := totalAll_len ks
    unfold total at ht
    obtain ⟨vw, vb, A, c, e, hg, h1, h2, h3, h4, h5⟩ := h
    refine ⟨vw, vb, A, c, e, ⟨hg.1, hg.2.1, by omega, by omega, by omega, hg.2.2.2.2.2.1, hg.2.2.2.2.2.2⟩, h1, h2, h3, h4, fun hp => ?_⟩
    obtain ⟨b, off, ea, hb, hk⟩ := h5 hp
    exact ⟨b, off, ea, hb, KidsW.small off ks hk (by omega)⟩
theorem KidsW.small {w : World} {B b : Nat} : (off : Nat) → (l : List Tr) → KidsW w B b off l → totalAll l ≤ 1000000 → KidsAt w B b off l
  | _, [], _, _ => by unfold KidsAt; trivial
  | off, t :: r, h, ht => by
    unfold KidsW at h
    unfold KidsAt
    unfold totalAll at ht
    obtain ⟨⟨k, z, vw, vb, vk, e0, e1, e2, e3, e4, h5⟩, h6⟩ := h
    exact ⟨⟨k, z, vw, vb, vk, e0, e1, e2, e3, e4, TrW.small t _ h5 (by omega)⟩, KidsW.small (off + 5) r h6 (by omega)⟩
end
mutual
theorem TrW.on {w w' : World} {B B' : Nat} (hb : Below B w w') (hB : B ≤ B') : (t : Tr) → (v : Value) → TrW w B t v → TrW w' B' t v
  | .mk k z ws bs ks, v, h => by
    unfold TrW at h ⊢
    obtain ⟨vw, vb, A, c, e, hg, h1, h2, h3, h4, h5⟩ := h
    refine ⟨vw, vb, A, c, e, hg, (h1.below hb (Nat.le_refl _)).more hB, (h2.below hb (Nat.le_refl _)).more hB, h3, h4, fun hp => ?_⟩
    obtain ⟨b, off, ea, hlt, hk⟩ := h5 hp
    exact ⟨b, off, ea, by omega, KidsW.on hb hB hlt off ks hk⟩
theorem KidsW.on {w w' : World} {B B' b : Nat} (hb : Below B w w') (hB : B ≤ B') (hlt : b < B) : (off : Nat) → (l : List Tr) → KidsW w B b off l → KidsW w' B' b off l
  | _, [], _ => by unfold KidsW; trivial
  | off, t :: r, h => by
    unfold KidsW at h ⊢
    obtain ⟨⟨k, z, vw, vb, vk, e0, e1, e2, e3, e4, h5⟩, h6⟩ := h
    exact ⟨⟨k, z, vw, vb, vk, (hb.cell (p := ⟨b, off, none⟩) hlt).trans e0, (hb.cell (p := ⟨b, off + 1, none⟩) hlt).trans e1, (hb.cell (p := ⟨b, off + 2, none⟩) hlt).trans e2, (hb.cell (p := ⟨b, off + 3, none⟩) hlt).trans e3, (hb.cell (p := ⟨b, off + 4, none⟩) hlt).trans e4, TrW.on hb hB t _ h5⟩, KidsW.on hb hB hlt (off + 5) r h6⟩
end
theorem KidsW.of {w : World} {B b : Nat} : (l : List Tr) → (off : Nat) →
    (∀ j, (hj : j < l.length) → ∃ k z vw vb vk, w.cell? ⟨b, off + j * 5, none⟩ = some (.int .i64 k) ∧ w.cell? ⟨b, off + j * 5 + 1, none⟩ = some (.int .i64 z) ∧ w.cell? ⟨b, off + j * 5 + 2, none⟩ = some vw ∧ w.cell? ⟨b, off + j * 5 + 3, none⟩ = some vb ∧ w.cell? ⟨b, off + j * 5 + 4, none⟩ = some vk ∧ TrW w B l[j] (.agg (cellsT k z vw vb vk))) → KidsW w B b off l
  | [], _, _ => by
    unfold KidsW
    trivial
  | t :: r, off, h => by
    unfold KidsW
    refine ⟨?_, KidsW.of r (off + 5) (fun j hj => ?_)⟩
    · have := h 0 (by simp)
      rw [Nat.zero_mul, Nat.add_zero] at this
      exact this
    · have := h (j + 1) (by simpa using hj)
      rw [show off + (j + 1) * 5 = off + 5 + j * 5 by omega] at this
      exact this
theorem KidsW.at_ {w : World} {B b : Nat} : (l : List Tr) → (off j : Nat) → (hj : j < l.length) → KidsW w B b off l →
    ∃ k z vw vb vk, w.cell? ⟨b, off + j * 5, none⟩ = some (.int .i64 k) ∧ w.cell? ⟨b, off + j * 5 + 1, none⟩ = some (.int .i64 z) ∧ w.cell? ⟨b, off + j * 5 + 2, none⟩ = some vw ∧ w.cell? ⟨b, off + j * 5 + 3, none⟩ = some vb ∧ w.cell? ⟨b, off + j * 5 + 4, none⟩ = some vk ∧ TrW w B l[j] (.agg (cellsT k z vw vb vk))
  | [], _, _, hj, _ => by simp at hj
  | t :: r, off, j, hj, h => by
    unfold KidsW at h
    cases j with
    | zero =>
      rw [Nat.zero_mul, Nat.add_zero]
      exact h.1
    | succ j =>
      have := KidsW.at_ r (off + 5) j (by simpa using hj) h.2
      rw [show off + (j + 1) * 5 = off + 5 + j * 5 by omega]
      exact this

/-! ### how it comes in -/
end Go.Proofs.YtdfldfnjjjcleaaDoor

namespace Go.Proofs.YtdfldfnjjjcleaaDoor
open Go.RowKit Go.Deep

theorem arena_len {H : Type} {enc : TypeId × Value → H} {W : World} {a : Option Addr} {len cap : Nat} {d : DataW H} {ps : List MemPlace} (h : DataW.Trod enc Tryd.prog W 0 (fun _ => true) true 23 (.slice a len cap) d ps) (hw : ∀ y ∈ d.weights Tryd.prog 23, y ≤ reachBytes) : len ≤ 10000000000000 := by
  obtain ⟨fuel, hf⟩ := h
  rcases open_int_rows Tryd.underlying23 Tryd.underlying34 Tryd.underlying53 (by kernel_rfl) (by kernel_rfl) hf with ⟨hcs, hx⟩ | ⟨x, l0, c0, A, L, C, Z, hcs, _, hl, hm, hx, hrow⟩
  · simp [Value.cells] at hcs
    omega
  · simp [Value.cells] at hcs
    obtain ⟨rfl, rfl, rfl⟩ := hcs
    obtain ⟨rfl, -⟩ := Prod.mk.inj hx
    have hb : Tryd.prog.bytesOf 34 = 24 := by kernel_rfl
    have h1 := hw ((len + (cap - len)) * 24) (by
      simp [DataW.weights, Tryd.underlying23, hb])
    unfold reachBytes at h1
    omega

end Go.Proofs.YtdfldfnjjjcleaaDoor
