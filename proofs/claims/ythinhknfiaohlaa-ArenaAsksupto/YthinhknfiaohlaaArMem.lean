/-
  Layer 7: an arena in memory: a slice of slices of words; rows of ints of the call's own.
-/
import Derived.Test.YthinhknfiaohlaaArMath
import Derived.Deep.OwnRows
import Derived.Maps.AppendAt
import Derived.Lib.AppendZeros
namespace Go.Proofs.Ythinhknfiaohlaa
open Go.RowKit Go.Deep

/-- the value v has the segments ls, in memory below block B -/
def ArV (w : World) (B : Nat) (v : Value) (ls : List (List Int)) : Prop :=
  ∃ A c, v = .slice A ls.length c ∧ ls.length ≤ c ∧ c ≤ 9223372036854775807 ∧ (0 < ls.length → ∃ b off, A = some ⟨b, off, none⟩ ∧ b < B ∧ ∀ j, j < ls.length → ∃ s, w.cell? ⟨b, off + j, none⟩ = some s ∧ NumS .u64 w B s (ls[j]?.getD []))
theorem ArV.below {w w' : World} {B B' : Nat} {v : Value} {ls : List (List Int)} (h : ArV w B v ls) (hb : Below B' w w') (hB : B ≤ B') : ArV w' B v ls := by
  obtain ⟨A, c, e, hc, hm, hr⟩ := h
  refine ⟨A, c, e, hc, hm, fun hl => ?_⟩
  obtain ⟨b, off, ea, hlt, hcell⟩ := hr hl
  refine ⟨b, off, ea, hlt, fun j hj => ?_⟩
  obtain ⟨s, h1, h2⟩ := hcell j hj
  exact ⟨s, (hb.cell (p := ⟨b, off + j, none⟩) (by show b < B'; omega)).trans h1, h2.below hb hB⟩
theorem ArV.more {w : World} {B B' : Nat} {v : Value} {ls : List (List Int)} (h : ArV w B v ls) (hB : B ≤ B') : ArV w B' v ls := by
  obtain ⟨A, c, e, hc, hm, hr⟩ := h
  refine ⟨A, c, e, hc, hm, fun hl => ?_⟩
  obtain ⟨b, off, ea, hlt, hcell⟩ := hr hl
  refine ⟨b, off, ea, by omega, fun j hj => ?_⟩
  obtain ⟨s, h1, h2⟩ := hcell j hj
  exact ⟨s, h1, h2.more hB⟩
theorem ArV.on {a b : World} {v : Value} {ls : List (List Int)} (h : ArV a a.heap.size v ls) (k : Below a.heap.size a b) : ArV b b.heap.size v ls := (h.below k (Nat.le_refl _)).more k.size
theorem ArV.form {a : World} {B m : Nat} {v : Value} {ls : List (List Int)} (h : ArV a B v ls) (hm : ls.length = m) : ∃ A c, v = .slice A m c := by
  obtain ⟨A, c, e, _⟩ := h
  exact ⟨A, c, by rw [e, hm]⟩
def sizesL (ls : List (List Int)) : List Int := ls.map (fun s => (s.length : Int))
theorem sizesL_get {ls : List (List Int)} {t : Nat} (h : t < ls.length) : (sizesL ls)[t]?.getD 0 = ((ls[t]?.getD []).length : Int) := by
  unfold sizesL
  rw [List.getElem?_map, List.getElem?_eq_getElem h]
  rfl
theorem sizesL_take {ls : List (List Int)} {t : Nat} (h : t < ls.length) : (sizesL ls).take (t + 1) = (sizesL ls).take t ++ [((ls[t]?.getD []).length : Int)] := by
  rw [List.take_add_one]
  congr 1
  unfold sizesL
  rw [List.getElem?_map, List.getElem?_eq_getElem h]
  rfl
theorem sizesL_length (ls : List (List Int)) : (sizesL ls).length = ls.length := by unfold sizesL; rw [List.length_map]
theorem sizesL_pos (ls : List (List Int)) : ∀ s ∈ sizesL ls, 0 ≤ s := by
  intro s hs
  obtain ⟨x, _, rfl⟩ := List.mem_map.1 hs
  omega
/-- a front has no more than all have -/
theorem sizesL_le (ls : List (List Int)) (t : Nat) : 0 ≤ ((sizesL ls).take t).sum ∧ ((sizesL ls).take t).sum ≤ (sizesL ls).sum := by
  have h7 := sum_split (sizesL ls) t
  have h8 : 0 ≤ ((sizesL ls).drop t).sum := sum_nonneg (fun s hs => sizesL_pos ls s (List.mem_of_mem_drop hs))
  exact ⟨sum_nonneg (fun s hs => sizesL_pos ls s (List.mem_of_mem_take hs)), by omega⟩

/-! ### rows of ints of the call's own -/
theorem Try.info3 : (Try.prog.info? 3).map (fun i => (i.zero, i.size, i.bytes)) = some (some (.int .i64 0), 1, 8) := by kernel_rfl
def OwnI (w : World) (base : Nat) (v : Value) (xs : List Int) : Prop := OwnN .i64 3 w base v xs
theorem OwnI.nil (w : World) (base : Nat) : OwnI w base (.slice none 0 0) [] := World.ownsRow_nil _ _ _ _
theorem append_int (w : World) (base ty : Nat) (v : Value) (xs : List Int) (x : Int) (hown : OwnI w base v xs) (hk : xs.length ≤ 1000000000000) (hbase : base ≤ w.heap.size) :
    ∃ v' w', (Builtin.append_ #[31, 31] ty #[v, .slice (some ⟨w.heap.size, 0, none⟩) 1 1]).run Try.prog (w.alloc (.cells #[.int .i64 x] 3)) = .ok v' w' ∧ OwnI w' base v' (xs ++ [x]) ∧ (w.alloc (.cells #[.int .i64 x] 3)).grownBy w' v.ownBlock := by
  obtain ⟨i0, hi, hz0, hz1, hz2⟩ := info_parts Try.info3
  obtain ⟨v', w', hrun, ho, hg, _, hl⟩ := run_append_own_at (P := Try.prog) (w := w.alloc (.cells #[.int .i64 x] 3)) base 31 ty 3 i0 _ 1 8 Try.underlying31 hi hz0 hz1 hz2 rfl (by decide) v xs.length (xs.map (Value.int .i64)) (World.ownsRow.alloc hown _) ⟨w.heap.size, 0, none⟩ 1 1 [.int .i64 x] rfl (cell_one_new _ _ _) (fun u hu => by simp at hu; subst hu; rfl) (by unfold maxLen; omega) (by omega) (by simp; omega)
  refine ⟨v', w', hrun, ?_, hg⟩
  unfold OwnI OwnN
  rw [List.length_append, List.map_append]
  exact ho
theorem app_belowI {w0 W w' : World} {base : Nat} {v : Value} {o : Obj} {xs : List Int} (hown : OwnI W base v xs) (hb : base = w0.heap.size) (hB : Below w0.heap.size w0 W) (hg : (W.alloc o).grownBy w' v.ownBlock) : Below w0.heap.size w0 w' := by
  subst hb
  exact (hB.alloc hB.size _).grown hg (by have := hB.size; simp; omega) (fun k e => (World.ownsRow.lt hown k e).1)

end Go.Proofs.Ythinhknfiaohlaa
