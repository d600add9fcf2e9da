/-
  Rows of bytes of the call's own: append of another row of bytes behind one; slices.Grow of nothing; slices.Concat of rows of bytes: new memory that reads as all of them, one behind the other.
-/
import Derived.Test.YthinhknfiaohlaaWordZeros
import Derived.Test.YthinhknfiaohlaaWordFacts
namespace Go.Proofs.Ythinhknfiaohlaa
open Go.RowKit Go.Deep

theorem Bytes.cut {w : World} {B len cap m : Nat} {A : Option Addr} {l : List Int} (h : Bytes w B (.slice A len cap) l) (hlen : l.length = len) (hm : m ≤ len) : Bytes w B (.slice A m cap) (l.take m) := by
  obtain ⟨A', c, e, h1, h2, hr⟩ := h
  injection e with e1 e2 e3
  subst e1 e3
  have hl : (l.take m).length = m := by rw [List.length_take]; omega
  refine ⟨A, cap, by rw [hl], by omega, h2, fun hp => ?_⟩
  obtain ⟨b, off, e, hb, hc⟩ := hr (by omega)
  refine ⟨b, off, e, hb, fun j hj => ?_⟩
  rw [List.getElem?_take_of_lt (by omega)]
  exact hc j (by omega)

/-- append(v, b...), v a row of the call's own, b a row of bytes -/
theorem append_bytes (w : World) (base B ty : Nat) (v : Value) (n : Nat) (xs : List Value) (y : Value) (l : List Int) (hown : w.ownsRow base 5 1 v n xs) (hb : Bytes w B y l) (hk : n + l.length ≤ 70368744177664) (hbase : base ≤ w.heap.size) :
    ∃ v' w', (Builtin.append_ #[24, 24] ty #[v, y]).run Try.prog w = .ok v' w' ∧ w'.ownsRow base 5 1 v' (n + l.length) (xs ++ l.map (Value.int .u8)) ∧ w.grownBy w' v.ownBlock := by
  obtain ⟨i0, hi, hz0, hz1, hz2⟩ := info_parts Try.info5
  have ht := Try.underlying24
  obtain ⟨A, c, rfl, h1, h2, hr⟩ := hb
  rcases A with _ | ad
  · have h0 : l.length = 0 := by
      rcases Nat.eq_zero_or_pos l.length with h | h
      · exact h
      · obtain ⟨b, off, e, _⟩ := hr (by omega)
        cases e
    have hl : l = [] := List.eq_nil_of_length_eq_zero h0
    subst hl
    refine ⟨v, w, ?_, by simpa using hown, ⟨rfl, rfl, rfl, Nat.le_refl _, fun _ _ _ => rfl⟩⟩
    rcases hown.2 with ⟨rfl, rfl⟩ | ⟨g, cap, cur, rfl, hbg, hg, hnc, hcm, hcs, htake⟩
    · simp [Builtin.append_, run_underlying ht, sizeOf, typeInfo, hi, Builtin.lenOf, Builtin.firstCells]
    · simp [Builtin.append_, run_underlying ht, sizeOf, typeInfo, hi, Builtin.lenOf, Builtin.firstCells, hnc, storeCells]
  · obtain ⟨v', w', hrun, ho, hg, _⟩ := run_append_own (P := Try.prog) w base 24 ty 5 i0 (.int .u8 0) 1 1 ht hi hz0 hz1 hz2 rfl (by decide) v n xs hown ad l.length c (l.map (Value.int .u8)) (by simp)
      (fun j u hu => by
        rw [List.getElem?_map, Option.map_eq_some_iff] at hu
        obtain ⟨x, hx, rfl⟩ := hu
        have hj : j < l.length := (List.getElem?_eq_some_iff.1 hx).1
        obtain ⟨b, off, e, _, hc⟩ := hr (by omega)
        injection e with e
        subst e
        have := hc j hj
        rw [hx, Option.getD_some] at this
        rw [Addr.add_lit]
        exact this)
      (fun u hu => by obtain ⟨x, _, rfl⟩ := List.mem_map.1 hu; rfl) (by unfold maxLen; omega) (by omega) hbase
    exact ⟨v', w', hrun, ho, hg⟩

/-- a row of the call's own, cut to nothing -/
theorem own_none {w : World} {base n cap : Nat} {A : Option Addr} {xs : List Value} (h : w.ownsRow base 5 1 (.slice A n cap) n xs) (hA : A ≠ none) : w.ownsRow base 5 1 (.slice A 0 cap) 0 [] := by
  obtain ⟨h1, ⟨e, hn⟩ | ⟨g, c, cur, e, hb, hh, hc, hm, hs, ht⟩⟩ := h
  · injection e with e1; exact absurd e1 hA
  · injection e with e1 e2 e3
    subst e1 e3
    exact ⟨rfl, .inr ⟨g, cap, cur, rfl, hb, hh, Nat.zero_le _, hm, hs, rfl⟩⟩

theorem append_make (w : World) (ty k : Nat) (k0 : 0 < k) (hk : k ≤ 70368744177664) :
    ∃ C, (Builtin.append_ #[24, 3] ty #[.slice none 0 0, .int .i64 k]).run Try.prog w = .ok (.slice (some ⟨w.heap.size, 0, none⟩) k C) (w.drew.alloc (.cells (Builtin.zeroCells #[Value.int .u8 0] k ++ Builtin.zeroCells #[Value.int .u8 0] (C - k)) 5)) ∧ k ≤ C ∧ C ≤ maxLen := by
  obtain ⟨i0, hi, hz0, hz1, hz2⟩ := info_parts Try.info5
  exact ⟨_, Lib.run_append_nil_zeros (P := Try.prog) w 24 3 ty 5 i0 (.int .u8 0) .i64 .i64 Try.underlying24 Try.underlying3 hi hz0 k k0 (by omega) (by omega) (by rw [hz2]; omega), grownCap_ge _ _ _ _, grownCap_le_maxLen w k 0 5 (by unfold maxLen; omega)⟩

end Go.Proofs.Ythinhknfiaohlaa
