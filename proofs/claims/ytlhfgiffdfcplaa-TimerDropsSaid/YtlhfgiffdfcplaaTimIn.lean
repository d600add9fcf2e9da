/-
  Layer 5: a slice of int16s, and a slice of deeds, that came in.
-/
import Derived.Test.YtlhfgiffdfcplaaTimLawsD
import Derived.Test.YtlhfgiffdfcplaaTimLawsB
import Derived.Test.YtlhfgiffdfcplaaWordRow
import Derived.OpenShut
import Derived.Deep.SlicePairs
namespace Go.Proofs.Ytlhfgiffdfcplaa
open Go.ChangeShapes Go.WideShapes Go.RowKit Go.Deep

/-- a slice of int16s that came in reads as its first elements -/
theorem row_halves {w : World} {a : Option Addr} {len cap : Nat} {zs : List Int}
    (h : (a = none ∧ len = 0 ∧ cap = 0 ∧ zs = []) ∨ ∃ x, a = some x ∧ len ≤ cap ∧ cap ≤ maxLen ∧ zs.length = cap ∧ (∀ i, i < zs.length → w.cell? (x.add i) = some (.int .i16 (zs.getD i 0))) ∧ ∀ n ∈ zs, (Lit.int .i16 n).wf = true) :
    ∃ l : List Int, l.length = len ∧ AllH l ∧ (0 < len → ∃ b off, a = some ⟨b, off, none⟩ ∧ b < w.heap.size ∧ ∀ j, j < len → w.cell? ⟨b, off + j, none⟩ = some (.int .i16 (l[j]?.getD 0))) := by
  rcases h with ⟨rfl, rfl, rfl, rfl⟩ | ⟨x, rfl, hl, hm, hz, hcell, hwf⟩
  · exact ⟨[], rfl, fun _ h => by simp at h, fun h => by omega⟩
  · refine ⟨zs.take len, by rw [List.length_take]; omega, fun y hy => bounds_i16 (hwf y (List.mem_of_mem_take hy)), fun hp => ?_⟩
    obtain ⟨b, off, spot⟩ := x
    have h0 := hcell 0 (by omega)
    have hs : spot = none := by simpa [Addr.add] using World.cell?_spot h0
    subst hs
    have hb := cell_lt h0
    refine ⟨b, off, rfl, by simpa [Addr.add] using hb, fun j hj => ?_⟩
    have hj' := hcell j (by omega)
    rw [List.getElem?_take_of_lt (by omega)]
    rw [← List.getD_eq_getElem?_getD]
    by_cases hj0 : j = 0
    · subst hj0; simpa [Addr.add] using hj'
    · simpa [Addr.add, hj0] using hj'

theorem Bytes.lecap_ {w : World} {B len cap : Nat} {A : Option Addr} {l : List Int} (h : Bytes w B (.slice A len cap) l) (hlen : l.length = len) : len ≤ cap := by
  obtain ⟨A', c, e, h1, _⟩ := h
  cases e
  omega
theorem cell_i {H : Type} {enc : TypeId × Value → H} {W : World} {base n : Nat} {sp : Nat → Bool} {held : Bool} {v : Value} {x : DataW H × List MemPlace} (h : DataW.trod enc Try.prog W base sp held n 3 [v] = some x) :
    v = .int .i64 (intOf v) ∧ In64 (intOf v) := by
  obtain ⟨z, e, _, hw⟩ := DataW.trod_int Try.underlying3 h
  simp only [List.cons.injEq, and_true] at e
  subst e
  exact ⟨rfl, bounds_i64 hw⟩
theorem cell_u {H : Type} {enc : TypeId × Value → H} {W : World} {base n : Nat} {sp : Nat → Bool} {held : Bool} {v : Value} {x : DataW H × List MemPlace} (h : DataW.trod enc Try.prog W base sp held n 5 [v] = some x) :
    v = .int .u8 (intOf v) ∧ 0 ≤ intOf v ∧ intOf v ≤ 255 := by
  obtain ⟨z, e, _, hw⟩ := DataW.trod_int Try.underlying5 h
  simp only [List.cons.injEq, and_true] at e
  subst e
  exact ⟨rfl, bounds_u8 hw⟩
/-- a slice of deeds that came in reads as a list of deeds -/
theorem deeds_in {H : Type} {enc : TypeId × Value → H} {W : World} {a : Option Addr} {len cap : Nat} {d : DataW H} {ps : List MemPlace} (h : DataW.Trod enc Try.prog W 0 (fun _ => true) true 22 (.slice a len cap) d ps) :
    ∃ l : List Dd, l.length = len ∧ AllD l ∧ Deeds W W.heap.size (.slice a len cap) l := by
  obtain ⟨fuel, hf⟩ := h
  have ce : Try.prog.cellsOf 30 = 3 := by kernel_rfl
  rcases open_slice Try.underlying22 hf with ⟨hcs, _⟩ | ⟨x, l0, c0, m, n, D, Pl, hcs, _, hl, hm, hmm, _, hx⟩
  · simp [Value.cells] at hcs
    obtain ⟨rfl, rfl, rfl⟩ := hcs
    exact ⟨[], rfl, fun s hs => by simp at hs, ⟨none, 0, rfl, fun h => by simp at h⟩⟩
  · simp [Value.cells] at hcs
    obtain ⟨rfl, rfl, rfl⟩ := hcs
    simp only [if_true] at hmm
    subst hmm
    have each : ∀ i, i < m → ∃ q : Dd, W.cell? (x.add (i * 3)) = some (.int .u8 q.1) ∧ W.cell? (x.add (i * 3 + 1)) = some (.int .i64 q.2.1) ∧ W.cell? (x.add (i * 3 + 2)) = some (.int .i64 q.2.2) ∧ (0 ≤ q.1 ∧ q.1 ≤ 255) ∧ In64 q.2.1 ∧ In64 q.2.2 := by
      intro i hi
      obtain ⟨cs', h1, h2⟩ := hx i hi
      rw [ce] at h1
      obtain ⟨_, hlen, hcell⟩ := World.cells?_some h1
      obtain ⟨xs, k, hk, hxy, _, hxl, hq⟩ := DataW.trod_struct Try.underlying30 h2
      match xs, hxl, cs', hlen with
      | [y0, y1, y2], _, [v0, v1, v2], _ =>
        have g0 := hq 0 _ rfl
        have g1 := hq 1 _ rfl
        have g2 := hq 2 _ rfl
        have c5 : Try.prog.cellsOf 5 = 1 := by kernel_rfl
        have c3 : Try.prog.cellsOf 3 = 1 := by kernel_rfl
        simp [c5, c3] at g0 g1 g2
        obtain ⟨e0, b0⟩ := cell_u g0
        obtain ⟨e1, b1⟩ := cell_i g1
        obtain ⟨e2, b2⟩ := cell_i g2
        have k0 := hcell 0 (by omega)
        have k1 := hcell 1 (by omega)
        have k2 := hcell 2 (by omega)
        refine ⟨(intOf v0, intOf v1, intOf v2), ?_, ?_, ?_, b0, b1, b2⟩
        · rw [← e0]; simpa [Addr.add] using k0
        · rw [← e1]; rw [Go.Deep.add_add] at k1; exact k1
        · rw [← e2]; rw [Go.Deep.add_add] at k2; exact k2
    have each' : ∀ i, ∃ q : Dd, i < m → W.cell? (x.add (i * 3)) = some (.int .u8 q.1) ∧ W.cell? (x.add (i * 3 + 1)) = some (.int .i64 q.2.1) ∧ W.cell? (x.add (i * 3 + 2)) = some (.int .i64 q.2.2) ∧ (0 ≤ q.1 ∧ q.1 ≤ 255) ∧ In64 q.2.1 ∧ In64 q.2.2 := fun i => by
      by_cases hi : i < m
      · obtain ⟨q, hq⟩ := each i hi
        exact ⟨q, fun _ => hq⟩
      · exact ⟨(0, 0, 0), fun h => absurd h hi⟩
    obtain ⟨Q, hQ⟩ := Classical.axiomOfChoice each'
    refine ⟨(List.range len).map Q, by simp, fun s hs => ?_, ⟨some x, m, by simp, fun hp => ?_⟩⟩
    · obtain ⟨i, hi, rfl⟩ := List.mem_map.1 hs
      obtain ⟨_, _, _, b0, b1, b2⟩ := hQ i (by have := List.mem_range.1 hi; omega)
      exact ⟨b0, b1, b2⟩
    · have hp' : 0 < len := by simpa using hp
      obtain ⟨b, off, spot⟩ := x
      have h0 := (hQ 0 (by omega)).1
      have hs : spot = none := by simpa [Addr.add] using World.cell?_spot h0
      subst hs
      have hb := cell_lt h0
      refine ⟨b, off, rfl, by simpa [Addr.add] using hb, fun j hj => ?_⟩
      have hj' : j < len := by simpa using hj
      have e : ((List.range len).map Q)[j]?.getD (0, 0, 0) = Q j := by simp [hj']
      rw [e]
      obtain ⟨q0, q1, q2, -⟩ := hQ j (by omega)
      have e0 : (⟨b, off, none⟩ : Addr).add (j * 3) = ⟨b, off + j * 3, none⟩ := by simp [Addr.add]
      have e1 : (⟨b, off, none⟩ : Addr).add (j * 3 + 1) = ⟨b, off + j * 3 + 1, none⟩ := by simp [Addr.add, Nat.add_assoc]
      have e2 : (⟨b, off, none⟩ : Addr).add (j * 3 + 2) = ⟨b, off + j * 3 + 2, none⟩ := by simp [Addr.add, Nat.add_assoc]
      rw [e0] at q0
      rw [e1] at q1
      rw [e2] at q2
      exact ⟨q0, q1, q2⟩

end Go.Proofs.Ytlhfgiffdfcplaa
