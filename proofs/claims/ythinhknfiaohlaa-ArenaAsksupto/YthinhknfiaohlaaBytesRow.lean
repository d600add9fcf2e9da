/-
  A row of bytes of the call's own, known whole as a list; made, stored into, copied into, read as a slice of bytes.
-/
import Derived.Test.YthinhknfiaohlaaWordFacts
import Derived.Laws.OwnMore
import Derived.Laws.CopyOwn
namespace Go.Proofs.Ythinhknfiaohlaa
open Go.RowKit Go.Deep

/-- block g is a row of bytes, none frozen, that holds just the list l -/
def RowB (w : World) (g : Nat) (l : List Int) : Prop := w.heap[g]? = some (.cells (l.map (Value.int .u8)).toArray 5 (0, 0))
theorem RowB.lt {w : World} {g : Nat} {l : List Int} (h : RowB w g l) : g < w.heap.size := (Array.getElem?_eq_some_iff.1 h).1
theorem RowB.cell {w : World} {g : Nat} {l : List Int} (h : RowB w g l) {j : Nat} (hj : j < l.length) : w.cell? ⟨g, j, none⟩ = some (.int .u8 (l[j]?.getD 0)) := by
  unfold RowB at h
  simp [World.cell?, h, hj]
theorem RowB.frozen {w : World} {g : Nat} {l : List Int} (h : RowB w g l) (j : Nat) : w.frozen? ⟨g, j, none⟩ = false := by
  unfold RowB at h
  simp [World.frozen?, h]
theorem RowB.of_block {w w' : World} {g : Nat} {l : List Int} (h : RowB w g l) (e : w'.heap[g]? = w.heap[g]?) : RowB w' g l := e.trans h
theorem RowB.below {w w' : World} {g B : Nat} {l : List Int} (h : RowB w g l) (hb : Below B w w') (hg : g < B) : RowB w' g l := h.of_block (hb.block g hg)
theorem RowB.set {w : World} {g : Nat} {l : List Int} (h : RowB w g l) (i : Nat) (x : Int) : RowB (w.setCell ⟨g, i, none⟩ (.int .u8 x)) g (l.set i x) := by
  unfold RowB at h ⊢
  simp [World.setCell, Array.getElem?_modify, h]
theorem RowB.bytes {w : World} {g c : Nat} {l : List Int} (h : RowB w g l) (hc : l.length ≤ c) (hm : c ≤ 9223372036854775807) : Bytes w w.heap.size (.slice (some ⟨g, 0, none⟩) l.length c) l :=
  ⟨_, c, rfl, hc, hm, fun _ => ⟨g, 0, rfl, h.lt, fun j hj => by rw [Nat.zero_add]; exact h.cell hj⟩⟩
theorem RowB.whole {w : World} {g M : Nat} {l : List Int} (h : RowB w g l) (hl : l.length = M) (hM : M ≤ 1000000000) : Bytes w w.heap.size (.slice (some ⟨g, 0, none⟩) M M) l := by
  subst hl
  exact h.bytes (Nat.le_refl _) (by omega)
theorem RowB.made (w : World) (n : Nat) : RowB (w.alloc (.cells (madeCells #[Value.int .u8 0] n) 5)) w.heap.size (List.replicate n 0) := by
  unfold RowB
  rw [blk_alloc_new]
  congr 2
  apply Array.ext'
  rw [toList_madeCells_one, List.map_replicate]

theorem below_drewN {B : Nat} {a b : World} (h : Below B a b) (n : Nat) : Below B a (b.drewN n) := h.trans ⟨rfl, rfl, rfl, Nat.le_refl _, fun _ _ => rfl⟩
theorem grown_set (w : World) (g i : Nat) (v : Value) : w.grownBy (w.setCell ⟨g, i, none⟩ v) (some g) :=
  ⟨rfl, rfl, rfl, by rw [nblk_setCell]; exact Nat.le_refl _, fun k _ hne => blk_setCell_other _ _ _ _ (fun e => hne (by rw [e]))⟩
theorem grown_drew (w : World) (row : Option Nat) : w.grownBy w.drew row := ⟨rfl, rfl, rfl, Nat.le_refl _, fun _ _ _ => rfl⟩
theorem grown_trans {a b c : World} {row : Option Nat} (h : a.grownBy b row) (k : b.grownBy c row) : a.grownBy c row :=
  ⟨k.os.trans h.os, k.tape.trans h.tape, k.output.trans h.output, Nat.le_trans h.size k.size, fun j hj hne => (k.block j (Nat.lt_of_lt_of_le hj h.size) hne).trans (h.block j hj hne)⟩

theorem nil_bytes (w : World) (B : Nat) : Bytes w B (.slice none 0 0) [] := ⟨none, 0, rfl, by simp, by omega, fun h => by simp at h⟩
theorem RowB.other {w : World} {g g' : Nat} {l : List Int} (h : RowB w g l) (hne : g ≠ g') (j : Nat) (v : Value) : RowB (w.setCell ⟨g', j, none⟩ v) g l := h.of_block (blk_setCell_other _ _ _ _ hne)
/-- what copy needs of a slice of bytes that is copied -/
theorem Bytes.source {w : World} {B n : Nat} {A : Option Addr} {c : Nat} {l : List Int} (h : Bytes w B (.slice A n c) l) (g m : Nat) (hm : n ≤ m) :
    (l.map (Value.int .u8)).length = Nat.min n m ∧ (0 < (l.map (Value.int .u8)).length → (some (⟨g, 0, none⟩ : Addr)) = some ⟨g, 0, none⟩ ∧ ∃ ad, A = some ad ∧ ∀ j v, (l.map (Value.int .u8))[j]? = some v → w.cell? (ad.add j) = some v) := by
  obtain ⟨A', c', e, h1, h2, hr⟩ := h
  injection e with e1 e2 e3
  subst e1 e2
  refine ⟨by rw [List.length_map]; exact (Nat.min_eq_left hm).symm, fun hp => ⟨rfl, ?_⟩⟩
  rw [List.length_map] at hp
  obtain ⟨b, off, rfl, _, hc⟩ := hr hp
  refine ⟨_, rfl, fun j v hv => ?_⟩
  rw [List.getElem?_map, Option.map_eq_some_iff] at hv
  obtain ⟨x, hx, rfl⟩ := hv
  have hj : j < l.length := (List.getElem?_eq_some_iff.1 hx).1
  have := hc j hj
  rw [hx, Option.getD_some] at this
  rw [Addr.add_lit]
  exact this
theorem ones_cells (l : List Int) : ∀ v ∈ l.map (Value.int .u8), v.oneCell' = true := fun v hv => by obtain ⟨x, _, rfl⟩ := List.mem_map.1 hv; rfl
theorem splice_pad (l : List Int) (n : Nat) : splice ((List.replicate n (0 : Int)).map (Value.int .u8)) 0 (l.map (Value.int .u8)) = (l ++ List.replicate (n - l.length) 0).map (Value.int .u8) := by
  unfold splice
  simp
/-- copy of a slice of bytes into a row of the call's own that is at least as long -/
theorem copy_row (w : World) (g M n ty : Nat) (A : Option Addr) (c B : Nat) (l : List Int) (hg : RowB w g (List.replicate M 0)) (hn : n = l.length) (hM : n ≤ M) (h : Bytes w B (.slice A n c) l) :
    ∃ w2, (Builtin.copy_ #[24, 24] ty #[.slice (some ⟨g, 0, none⟩) M M, .slice A n c]).run Try.prog w = .ok (.int .i64 n) w2 ∧ RowB w2 g (l ++ List.replicate (M - n) 0) ∧ w.grownBy w2 (some g) := by
  by_cases h0 : n = 0
  · subst h0
    have hl : l = [] := List.eq_nil_of_length_eq_zero hn.symm
    subst hl
    have := run_copy_none (P := Try.prog) w 24 24 ty 5 (some ⟨g, 0, none⟩) A M M 0 c Try.underlying24 (by kernel_rfl) (Nat.zero_min _)
    exact ⟨w, this, by simpa using hg, ⟨rfl, rfl, rfl, Nat.le_refl _, fun _ _ _ => rfl⟩⟩
  · obtain ⟨s1, s2⟩ := h.source g M hM
    obtain ⟨_, ad, rfl, hsrc⟩ := s2 (by rw [List.length_map]; omega)
    have := run_copy_row (P := Try.prog) w 24 24 ty 5 g 0 M M ad n c _ 5 (l.map (Value.int .u8)) Try.underlying24 (by kernel_rfl) hg s1 hsrc (by simp; omega) (ones_cells l)
    rw [List.length_map, ← hn] at this
    refine ⟨_, this, ?_, ⟨rfl, rfl, rfl, by simp [World.setRow], fun k _ hne => setRow_other w g k _ (fun e => hne (by rw [e]))⟩⟩
    have h2 := setRow_heap w g _ (((l ++ List.replicate (M - n) 0).map (Value.int .u8)).toArray) 5 (0, 0) hg
    unfold RowB
    rw [← h2]
    congr 3
    simp
/-- the rest of the world, where one row alone was written -/
theorem Bytes.grown {w w' : World} {g B : Nat} {v : Value} {l : List Int} (h : Bytes w B v l) (hg : w.grownBy w' (some g)) (hB : B ≤ g) (hB2 : B ≤ w.heap.size) : Bytes w' B v l := by
  obtain ⟨A, c, e, hc, hm, hr⟩ := h
  refine ⟨A, c, e, hc, hm, fun hp => ?_⟩
  obtain ⟨b, off, e, hb, hcell⟩ := hr hp
  refine ⟨b, off, e, hb, fun j hj => ?_⟩
  rw [← hcell j hj]
  exact World.cell?_of_block (w := w) (hg.block b (by omega) (fun e => by cases e; omega))

end Go.Proofs.Ythinhknfiaohlaa
