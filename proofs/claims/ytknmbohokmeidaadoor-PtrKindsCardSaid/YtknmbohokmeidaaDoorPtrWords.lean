/-
  Layer 6: the document's Words, of a pointer that may be.
-/
import Derived.Test.YtknmbohokmeidaaDoorPtrRef
namespace Go.Proofs.YtknmbohokmeidaaDoor
open Go.RowKit Go.Deep

set_option maxRecDepth 100000 in
set_option maxHeartbeats 2000000 in
theorem rwords_any (p : Pt) (hp : OkP p) (w : World) :
    Calls Tryd.prog 17 #[.agg (cellsP p)] w fun e w' => e = .returned (.tuple #[.int .i64 (wordN p), .int .i64 (wordE p)]) ∧ Below w.heap.size w w' := by
  obtain ⟨k, o, d, r, s, c, g, b⟩ := p
  have HB : ∀ cs, Below w.heap.size w (w.alloc (.cells cs 24)) := fun cs => (Below.refl _ _).alloc (Nat.le_refl _) _
  unfold cellsP
  dsimp only
  rcases hp with e | ⟨e, h1, h2, h3, h4, h5, h6, h7, h8⟩ | ⟨e, h1, h2, h3, h4, h5, h6, h7⟩ | ⟨e, h1, h2, h3, h4, h5, h6⟩
  · cases e
    go_enter Tryd.func17, Tryd.ntmps17
    go_wp2_with fail
    go_ret2
    exact ⟨rfl, HB _⟩
  · dsimp only at e h1 h2 h3 h4 h5 h6 h7 h8
    subst e h4 h5 h6 h7
    have HE : Hid (wordN ⟨1, o, d, r, 0, 0, 0, false⟩ = d + r ∧ wordE ⟨1, o, d, r, 0, 0, 0, false⟩ = 0) := Lib.hid (by simp [wordN, wordE])
    have hw : IntKind.i64.wrap (d + r) = d + r := IntWalk.i64_in _ (by omega)
    rw [HE.out.1, HE.out.2]
    clear h8 HE
    go_enter Tryd.func17, Tryd.ntmps17
    go_wp2_with fail
    go_ret2
    exact ⟨rfl, HB _⟩
  · dsimp only at e h1 h2 h3 h4 h5 h6 h7
    subst e h2 h3 h6 h7
    by_cases s2 : s = 2
    · subst s2
      have HE : Hid (wordN ⟨2, o, 0, 0, 2, c, 0, false⟩ = (c + 7) / 8 ∧ wordE ⟨2, o, 0, 0, 2, c, 0, false⟩ = 0) := Lib.hid (by simp [wordN, wordE])
      have hw : IntKind.i64.wrap (c + 7) = c + 7 := IntWalk.i64_in _ (by omega)
      have hd : (c + 7).tdiv 8 = (c + 7) / 8 := Int.tdiv_eq_ediv_of_nonneg (by omega)
      rw [HE.out.1, HE.out.2]
      clear HE
      go_enter Tryd.func17, Tryd.ntmps17
      go_wp2_with fail
      go_ret2
      exact ⟨rfl, HB _⟩
    · have d2 : (s == 2) = false := by simpa using s2
      by_cases s5 : s = 5
      · subst s5
        have HE : Hid (wordN ⟨2, o, 0, 0, 5, c, 0, false⟩ = c ∧ wordE ⟨2, o, 0, 0, 5, c, 0, false⟩ = 0) := Lib.hid (by simp [wordN, wordE])
        rw [HE.out.1, HE.out.2]
        clear HE
        go_enter Tryd.func17, Tryd.ntmps17
        go_wp2_with fail
        go_ret2
        exact ⟨rfl, HB _⟩
      · have d5 : (s == 5) = false := by simpa using s5
        by_cases s6 : s = 6
        · subst s6
          have HE : Hid (wordN ⟨2, o, 0, 0, 6, c, 0, false⟩ = c ∧ wordE ⟨2, o, 0, 0, 6, c, 0, false⟩ = 0) := Lib.hid (by simp [wordN, wordE])
          rw [HE.out.1, HE.out.2]
          clear HE
          go_enter Tryd.func17, Tryd.ntmps17
          go_wp2_with fail
          go_ret2
          exact ⟨rfl, HB _⟩
        · have d6 : (s == 6) = false := by simpa using s6
          have HE : Hid (wordN ⟨2, o, 0, 0, s, c, 0, false⟩ = 0 ∧ wordE ⟨2, o, 0, 0, s, c, 0, false⟩ = 23) := Lib.hid (by simp [wordN, wordE, s2, s5, s6])
          rw [HE.out.1, HE.out.2]
          clear HE s2 s5 s6
          go_enter Tryd.func17, Tryd.ntmps17
          go_wp2_with fail
          go_ret2
          exact ⟨rfl, HB _⟩
  · dsimp only at e h1 h2 h3 h4 h5 h6
    subst e h2 h3 h4 h5
    cases b
    · have HE : Hid (wordN ⟨3, o, 0, 0, 0, 0, g, false⟩ = 1 ∧ wordE ⟨3, o, 0, 0, 0, 0, g, false⟩ = 0) := Lib.hid (by simp [wordN, wordE])
      rw [HE.out.1, HE.out.2]
      clear HE
      go_enter Tryd.func17, Tryd.ntmps17
      go_wp2_with fail
      go_ret2
      exact ⟨rfl, HB _⟩
    · have HE : Hid (wordN ⟨3, o, 0, 0, 0, 0, g, true⟩ = 2 ∧ wordE ⟨3, o, 0, 0, 0, 0, g, true⟩ = 0) := Lib.hid (by simp [wordN, wordE])
      rw [HE.out.1, HE.out.2]
      clear HE
      go_enter Tryd.func17, Tryd.ntmps17
      go_wp2_with fail
      go_ret2
      exact ⟨rfl, HB _⟩

end Go.Proofs.YtknmbohokmeidaaDoor
