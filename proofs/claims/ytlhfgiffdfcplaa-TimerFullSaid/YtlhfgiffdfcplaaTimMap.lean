/-
  Layer 5: a map of ints to pointers as a list of keys and values: what a look-up, a store at a new key and a delete come to.
-/
import Derived.Test.YtlhfgiffdfcplaaTimMem
import Derived.MapKept
import Derived.Carry
namespace Go.Proofs.Ytlhfgiffdfcplaa
open Go.RowKit Go.Deep Go.Sort

def lookAt (k : Int) : List (Int × Value) → Nat → Option (Nat × Value)
  | [], _ => none
  | p :: ps, i => if k = p.1 then some (i, p.2) else lookAt k ps (i + 1)
theorem lookAt_none {k : Int} : ∀ {m : List (Int × Value)} (i : Nat), (∀ p ∈ m, p.1 ≠ k) → lookAt k m i = none := by
  intro m
  induction m with
  | nil => intro i _; rfl
  | cons p ps ih =>
    intro i h
    rw [lookAt, if_neg (fun e => h p (List.mem_cons_self ..) e.symm)]
    exact ih (i + 1) (fun q hq => h q (List.mem_cons_of_mem _ hq))
theorem lookAt_some {k : Int} {v : Value} : ∀ {m : List (Int × Value)} (i : Nat), (m.map (·.1)).Nodup → (k, v) ∈ m → ∃ j, lookAt k m i = some (i + j, v) ∧ m[j]? = some (k, v) := by
  intro m
  induction m with
  | nil => intro i _ h; simp at h
  | cons p ps ih =>
    intro i hn h
    rw [List.map_cons, List.nodup_cons] at hn
    rw [lookAt]
    by_cases e : k = p.1
    · rw [if_pos e]
      rcases List.mem_cons.1 h with h2 | h2
      · exact ⟨0, by rw [← h2]; rfl, by rw [← h2]; rfl⟩
      · exact absurd (List.mem_map.2 ⟨_, h2, e⟩) hn.1
    · rw [if_neg e]
      rcases List.mem_cons.1 h with h2 | h2
      · exact absurd (by rw [← h2]) e
      · obtain ⟨j, h3, h4⟩ := ih (i + 1) hn.2 h2
        exact ⟨j + 1, by rw [h3, show i + 1 + j = i + (j + 1) by omega], h4⟩

theorem map_erase {α β : Type} (f : α → β) (l : List α) (j : Nat) : (l.eraseIdx j).map f = (l.map f).eraseIdx j := by
  simp [List.eraseIdx_eq_take_drop_succ, List.map_take, List.map_drop]
theorem erase_perm {α : Type} : ∀ {l : List α} {j : Nat} (h : j < l.length), l.Perm (l[j] :: l.eraseIdx j)
  | x :: xs, 0, _ => List.Perm.refl _
  | x :: xs, j + 1, h => ((erase_perm (l := xs) (j := j) (by simpa using h)).cons x).trans (List.Perm.swap _ _ _)

def MapP (w : World) (mv : Value) (m : List (Int × Value)) : Prop :=
  (mv = .map none ∧ m = []) ∨ ∃ (b : Nat) (es : Array MapEntry) (clock : Nat), mv = .map (some b) ∧ w.heap[b]? = some (.map es clock) ∧ es.toList.map (fun e => (e.key, e.val)) = m.map (fun p => (Value.int .i64 p.1, p.2))
theorem MapP.lt {w : World} {mv : Value} {m : List (Int × Value)} (h : MapP w mv m) : ∀ k, mapB mv = some k → k < w.heap.size := by
  intro k hk
  rcases h with ⟨rfl, _⟩ | ⟨b, es, c, rfl, hb, _⟩
  · cases hk
  · cases hk
    exact (Array.getElem?_eq_some_iff.1 hb).1
theorem MapP.kept {w w' : World} {mv : Value} {m : List (Int × Value)} (h : MapP w mv m) (hk : ∀ k, mapB mv = some k → w'.heap[k]? = w.heap[k]?) : MapP w' mv m := by
  rcases h with h | ⟨b, es, c, rfl, hb, he⟩
  · exact .inl h
  · exact .inr ⟨b, es, c, rfl, (hk b rfl).trans hb, he⟩
theorem findNow_is (q : TypeDesc) (hq : ∀ a b : Int, Instr.sameNow q (.int .i64 a) (.int .i64 b) = some (a == b)) (k : Int) : ∀ (es : List MapEntry) (m : List (Int × Value)) (i : Nat), es.map (fun e => (e.key, e.val)) = m.map (fun p => (Value.int .i64 p.1, p.2)) → Instr.findNow q (.int .i64 k) es i = some (lookAt k m i) := by
  intro es
  induction es with
  | nil =>
    intro m i h
    cases m with
    | nil => rfl
    | cons p ps => simp at h
  | cons e es ih =>
    intro m i h
    cases m with
    | nil => simp at h
    | cons p ps =>
      simp only [List.map_cons, List.cons.injEq, Prod.mk.injEq] at h
      obtain ⟨⟨h1, h2⟩, h3⟩ := h
      rw [Instr.findNow, h1, hq, lookAt]
      by_cases hk : k = p.1
      · rw [if_pos hk, show (k == p.1) = true by simpa using hk]
        show some (some (i, e.val)) = _
        rw [h2]
      · rw [if_neg hk, show (k == p.1) = false by simpa using hk]
        exact ih ps (i + 1) h3
theorem sameNow_int (a b : Int) : Instr.sameNow (.int .i64) (.int .i64 a) (.int .i64 b) = some (a == b) := by simp [Instr.sameNow]
theorem run_findKey {w : World} {k : Int} {es : Array MapEntry} {m : List (Int × Value)} (h : es.toList.map (fun e => (e.key, e.val)) = m.map (fun p => (Value.int .i64 p.1, p.2))) : (Instr.findKey 3 (.int .i64 k) es.toList).run Try.prog w = .ok (lookAt k m 0) w := by
  unfold Instr.findKey
  simp [run_underlying Try.underlying3, findNow_is (.int .i64) sameNow_int k es.toList m 0 h]
theorem run_check (w : World) (k : Int) (e : Bool) : (Instr.checkKey e 10000 3 (.int .i64 k)).run Try.prog w = .ok () w := by
  rw [show (10000 : Nat) = 9999 + 1 from rfl]
  unfold Instr.checkKey
  simp [run_underlying Try.underlying3]
theorem run_zero_p (w : World) : (zeroValue 67).run Try.prog w = .ok (.pointer none) w := by kernel_rfl
theorem run_get {w : World} {b c : Nat} {es : Array MapEntry} (h : w.heap[b]? = some (.map es c)) : (getObj b).run Try.prog w = .ok (.map es c) w := by simp [getObj, Sem.run, h]
theorem run_set {w : World} {b c : Nat} {es : Array MapEntry} (o : Obj) (h : w.heap[b]? = some (.map es c)) : (setObj b o).run Try.prog w = .ok () { w with heap := w.heap.setIfInBounds b o } := by simp [setObj, Sem.run, h]
def lookV (k : Int) (m : List (Int × Value)) : Value := match lookAt k m 0 with
  | some (_, v) => v
  | none => .pointer none
theorem run_look {w : World} {mv : Value} {m : List (Int × Value)} (h : MapP w mv m) (k : Int) : (Instr.lookup 55 mv (.int .i64 k) false).run Try.prog w = .ok (lookV k m) w := by
  unfold Instr.lookup lookV
  rcases h with ⟨rfl, rfl⟩ | ⟨b, es, c, rfl, hb, he⟩
  · have hf := @run_findKey w k #[] [] rfl
    simp at hf
    simp [run_underlying Try.underlying55, run_check, hf, lookAt]
  · simp [run_underlying Try.underlying55, run_get hb, run_check, run_findKey he]
    cases lookAt k m 0 with
    | none => exact run_zero_p w
    | some p => rfl
theorem run_put {w : World} {b : Nat} {m : List (Int × Value)} (h : MapP w (.map (some b)) m) (k : Int) (v : Value) (hk : ∀ p ∈ m, p.1 ≠ k) : ∃ w', (Instr.mapUpdate 55 (.map (some b)) (.int .i64 k) v).run Try.prog w = .ok () w' ∧ MapP w' (.map (some b)) (m ++ [(k, v)]) ∧ Grows (fun k => k = b) (fun k => k = b) w w' := by
  rcases h with ⟨h, _⟩ | ⟨b', es, c, e, hb, he⟩
  · cases h
  · cases e
    have hlt := (Array.getElem?_eq_some_iff.1 hb).1
    refine ⟨{ w with heap := w.heap.setIfInBounds b (.map (es.push { key := .int .i64 k, val := v, born := c }) (c + 1)) }, ?_, .inr ⟨b, es.push { key := .int .i64 k, val := v, born := c }, c + 1, rfl, ?_, ?_⟩, rfl, rfl, rfl, by simp, fun j _ hj => ?_, fun j hj => .inl hj⟩
    · unfold Instr.mapUpdate
      simp [run_underlying Try.underlying55, run_get hb, run_check, run_findKey he, lookAt_none 0 hk, run_set _ hb]
    · simp [hlt]
    · simp [he]
    · simp [Ne.symm hj]
theorem run_del {w : World} {b ty : Nat} {m : List (Int × Value)} (h : MapP w (.map (some b)) m) (k : Int) (v : Value) (hn : (m.map (·.1)).Nodup) (hk : (k, v) ∈ m) : ∃ w' m', (Builtin.delete_ #[55, 3] ty #[.map (some b), .int .i64 k]).run Try.prog w = .ok (.tuple #[]) w' ∧ MapP w' (.map (some b)) m' ∧ m.Perm ((k, v) :: m') ∧ Grows (fun k => k = b) (fun k => k = b) w w' := by
  rcases h with ⟨h, _⟩ | ⟨b', es, c, e, hb, he⟩
  · cases h
  · cases e
    have hlt := (Array.getElem?_eq_some_iff.1 hb).1
    obtain ⟨j, h1, h2⟩ := lookAt_some 0 hn hk
    rw [Nat.zero_add] at h1
    have hj : j < m.length := (List.getElem?_eq_some_iff.1 h2).1
    have hes : es.size = m.length := by have := congrArg List.length he; simpa using this
    refine ⟨{ w with heap := w.heap.setIfInBounds b (.map (es.eraseIdxIfInBounds j) c) }, m.eraseIdx j, ?_, .inr ⟨b, es.eraseIdxIfInBounds j, c, rfl, ?_, ?_⟩, ?_, rfl, rfl, rfl, by simp, fun i _ hi => ?_, fun j hj => .inl hj⟩
    · unfold Builtin.delete_
      simp [run_underlying Try.underlying55, run_get hb, run_check, run_findKey he, h1, run_set _ hb]
    · simp [hlt]
    · rw [Array.eraseIdxIfInBounds, dif_pos (by omega), Array.toList_eraseIdx, map_erase, map_erase, he]
    · have e2 : m[j] = (k, v) := (List.getElem?_eq_some_iff.1 h2).2
      rw [← e2]
      exact erase_perm hj
    · simp [Ne.symm hi]

end Go.Proofs.Ytlhfgiffdfcplaa
