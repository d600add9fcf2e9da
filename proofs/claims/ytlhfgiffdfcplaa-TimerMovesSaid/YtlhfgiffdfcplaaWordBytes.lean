/-
  Rows of bytes in memory, and the contracts of layer 1's functions on bytes: word.Put and the document's Put (what they return reads as the number's bytes, in new memory), the document's Get.
-/
import Derived.Test.YtlhfgiffdfcplaaWordNum
import Derived.Test.YtlhfgiffdfcplaaWordMathB
import Derived.Deep.OwnRows
namespace Go.Proofs.Ytlhfgiffdfcplaa
open Go.RowKit Go.Deep

/-! ### A slice of bytes that reads as a list -/
/-- the slice value v has the bytes l, in memory below block B (without an element it may be nil, or lie anywhere) -/
def Bytes (w : World) (B : Nat) (v : Value) (l : List Int) : Prop :=
  ∃ A c, v = .slice A l.length c ∧ l.length ≤ c ∧ c ≤ 9223372036854775807 ∧ (0 < l.length → ∃ b off, A = some ⟨b, off, none⟩ ∧ b < B ∧ ∀ j, j < l.length → w.cell? ⟨b, off + j, none⟩ = some (.int .u8 (l[j]?.getD 0)))
theorem Bytes.below {w w' : World} {B B' : Nat} {v : Value} {l : List Int} (h : Bytes w B v l) (hb : Below B' w w') (hB : B ≤ B') : Bytes w' B v l := by
  obtain ⟨A, c, e, hc, hm, hr⟩ := h
  refine ⟨A, c, e, hc, hm, fun hl => ?_⟩
  obtain ⟨b, off, ea, hlt, hcell⟩ := hr hl
  exact ⟨b, off, ea, hlt, fun j hj => (hb.cell (p := ⟨b, off + j, none⟩) (by show b < B'; omega)).trans (hcell j hj)⟩
theorem Bytes.more {w : World} {B B' : Nat} {v : Value} {l : List Int} (h : Bytes w B v l) (hB : B ≤ B') : Bytes w B' v l := by
  obtain ⟨A, c, e, hc, hm, hr⟩ := h
  refine ⟨A, c, e, hc, hm, fun hl => ?_⟩
  obtain ⟨b, off, ea, hlt, hcell⟩ := hr hl
  exact ⟨b, off, ea, by omega, hcell⟩

/-! ### word.Put -/
def clip8 (k : Int) : Nat := (min (max k 0) 8).toNat
theorem clip8_bd (k : Int) : clip8 k ≤ 8 := by unfold clip8; omega
def byteAt (n : Int) (i : Nat) : Int := n / 2 ^ (8 * i) % 256
def putL (n : Int) (k : Nat) : List Int := (List.range k).map (byteAt n)
theorem putL_length (n : Int) (k : Nat) : (putL n k).length = k := by simp [putL]
theorem putL_get (n : Int) {k j : Nat} (h : j < k) : (putL n k)[j]?.getD 0 = byteAt n j := by simp [putL, h]

theorem Try.info5 : (Try.prog.info? 5).map (fun i => (i.zero, i.size, i.bytes)) = some (some (.int .u8 0), 1, 1) := by kernel_rfl

theorem put_step (n : Int) (t : Nat) (i : Nat) : (if i = t then Value.int .u8 (n / 2 ^ (8 * t) % 256) else Value.int .u8 (if i < t then byteAt n i else 0)) = Value.int .u8 (if i < t + 1 then byteAt n i else 0) := by
  by_cases h : i = t
  · subst h; simp [byteAt]
  · rw [if_neg h]
    by_cases h2 : i < t
    · rw [if_pos h2, if_pos (by omega)]
    · rw [if_neg h2, if_neg (by omega)]

/-! ### The document's Put -/
theorem putL_succ (n : Int) (t : Nat) : putL n (t + 1) = putL n t ++ [byteAt n t] := by simp [putL, List.range_succ]
theorem byte_next (n : Int) (t : Nat) : n / 2 ^ (8 * t) / 256 = n / 2 ^ (8 * (t + 1)) := by
  have h := pow_pos (8 * t)
  rw [Int.ediv_ediv, if_neg (by omega), Int.sub_zero, show (256 : Int) = 2 ^ 8 from rfl, ← Int.pow_add]
  rfl
theorem own_bytes {w : World} {base : Nat} {v : Value} {l : List Int} (h : w.ownsRow base 5 1 v l.length (l.map (Value.int .u8))) : Bytes w w.heap.size v l := by
  have h0 := h
  obtain ⟨h1, ⟨rfl, hn⟩ | ⟨g, cap, cur, rfl, hb, hh, hc, hm, hs, ht⟩⟩ := h
  · exact ⟨none, 0, by rw [hn], by omega, by omega, fun hp => by omega⟩
  · refine ⟨_, cap, rfl, hc, by unfold maxLen at hm; omega, fun hp => ⟨g, 0, rfl, ?_, fun j hj => ?_⟩⟩
    · rcases Nat.lt_or_ge g w.heap.size with hlt | hge
      · exact hlt
      · rw [Array.getElem?_eq_none hge] at hh; cases hh
    · rw [Nat.zero_add, h0.cellAt j (by omega)]
      simp [hj]

end Go.Proofs.Ytlhfgiffdfcplaa
